/- The demands and the sizes of the tracks of a grid, in plain terms; what the laws of package grid ask of Tracks, Least and Most, as definitions over a function's number; no premise on the program. -/
import Derived.Test.YtdoenkngmgclmaaBoC
import Derived.Test.YtdoenkngmgclmaaGdA
namespace Go.Proofs.Ytdoenkngmgclmaa
open Go.RowKit Go.Sort
set_option linter.unusedVariables false
set_option linter.unusedSimpArgs false

structure Tk where
  (kd nn : Int)
structure It where
  (at_ sp mn mx : Int)
def trC (t : Nat → Tk) (i j : Nat) : Value := match j with
  | 0 => .int .i64 (t i).kd
  | _ => .int .i64 (t i).nn
def itC (I : Nat → It) (i j : Nat) : Value := match j with
  | 0 => .int .i64 (I i).at_
  | 1 => .int .i64 (I i).sp
  | 2 => .int .i64 (I i).mn
  | _ => .int .i64 (I i).mx
def okT (t : Tk) : Prop := (0 ≤ t.kd ∧ t.kd ≤ 2) ∧ (t.kd = 0 → 0 ≤ t.nn ∧ t.nn ≤ 1048576) ∧ (t.kd = 1 → t.nn = 0) ∧ (t.kd = 2 → 1 ≤ t.nn ∧ t.nn ≤ 1000)
def okI (n : Nat) (x : It) : Prop := (0 ≤ x.mn ∧ x.mn ≤ 1048576) ∧ (0 ≤ x.mx ∧ x.mx ≤ 1048576) ∧ (0 ≤ x.at_ ∧ x.at_ < n) ∧ 1 ≤ x.sp ∧ x.sp ≤ n - x.at_
def allOk (av gap : Int) (n : Nat) (t : Nat → Tk) (m : Nat) (I : Nat → It) : Prop := (0 ≤ av ∧ av ≤ 1048576) ∧ (0 ≤ gap ∧ gap ≤ 1048576) ∧ (∀ i, i < n → okT (t i)) ∧ ∀ k, k < m → okI n (I k)
noncomputable def erG (av gap : Int) (n : Nat) (t : Nat → Tk) (m : Nat) (I : Nat → It) : Int := open Classical in if 24 < n ∨ 100 < m then 2 else if allOk av gap n t m I then 0 else 1

/-! ### What an item adds to its tracks -/
def aG (x : It) : Nat := x.at_.toNat
def pG (x : It) : Nat := x.sp.toNat
def dG (gap want : Int) (x : It) (s : Nat → Int) : Int := want - sumF (fun j => s (aG x + j)) (pG x) - gap * ((pG x : Int) - 1)
/-- The kind of track that takes it, of the first j of the item's tracks. -/
def kdG (t : Nat → Tk) (a : Nat) : Nat → Int
  | 0 => -1
  | j + 1 => if (t (a + j)).kd = 2 ∨ ((t (a + j)).kd = 1 ∧ kdG t a j < 0) then (t (a + j)).kd else kdG t a j
/-- The tracks that do not take it. -/
def zG (t : Nat → Tk) (x : It) (kd : Int) (i : Nat) : Bool := !(decide (aG x ≤ i) && decide (i < aG x + pG x) && decide ((t i).kd = kd))
noncomputable def sprG (t : Nat → Tk) (gap want : Int) (x : It) (n : Nat) (s : Nat → Int) (i : Nat) : Int :=
  if 0 < dG gap want x s ∧ 0 ≤ kdG t (aG x) (pG x) ∧ zG t x (kdG t (aG x) (pG x)) i = false then s i + shr (dG gap want x s) ones (rk (zG t x (kdG t (aG x) (pG x))) n) (rk (zG t x (kdG t (aG x) (pG x))) i) else s i
def mxK (P : Nat → Bool) (f : Nat → Int) : Nat → Int
  | 0 => 0
  | k + 1 => if P k then max (mxK P f k) (f k) else mxK P f k
def oneB (I : Nat → It) (i k : Nat) : Bool := decide ((I k).sp = 1) && decide ((I k).at_ = i)
def ls0 (t : Nat → Tk) (I : Nat → It) (m i : Nat) : Int := if (t i).kd = 0 then (t i).nn else mxK (oneB I i) (fun k => (I k).mn) m
def ms0 (t : Nat → Tk) (I : Nat → It) (m i : Nat) : Int := if (t i).kd = 0 then (t i).nn else max (mxK (oneB I i) (fun k => (I k).mx) m) (ls0 t I m i)
noncomputable def addG (t : Nat → Tk) (gap : Int) (I : Nat → It) (n : Nat) (f : Nat → Int) (s0 : Nat → Int) : Nat → Nat → Int
  | 0 => s0
  | k + 1 => if 1 < (I k).sp then sprG t gap (f k) (I k) n (addG t gap I n f s0 k) else addG t gap I n f s0 k
noncomputable def lqF (t : Nat → Tk) (gap : Int) (I : Nat → It) (n m : Nat) : Nat → Int := addG t gap I n (fun k => (I k).mn) (ls0 t I m) m
noncomputable def mqF (t : Nat → Tk) (gap : Int) (I : Nat → It) (n m : Nat) (i : Nat) : Int := max (addG t gap I n (fun k => (I k).mx) (ms0 t I m) m i) (lqF t gap I n m i)
def totG (gap : Int) (s : Nat → Int) (n : Nat) : Int := sumF s n + if 1 < n then gap * ((n : Int) - 1) else 0

/-! ### The sizes -/
def zA (t : Nat → Tk) (i : Nat) : Bool := !decide ((t i).kd = 1)
def zF (t : Nat → Tk) (i : Nat) : Bool := !decide ((t i).kd = 2)
/-- The k-th of those that are left. -/
def selN (z : Nat → Bool) : Nat → Nat → Nat
  | 0, _ => 0
  | n + 1, k => if z n then selN z n k else if k = rk z n then n else selN z n k
noncomputable def waG (t : Nat → Tk) (gap : Int) (I : Nat → It) (n m : Nat) (i : Nat) : Int := mqF t gap I n m i - lqF t gap I n m i
noncomputable def s1G (av : Int) (t : Nat → Tk) (gap : Int) (I : Nat → It) (n m : Nat) (i : Nat) : Int :=
  if 0 < av - totG gap (lqF t gap I n m) n ∧ zA t i = false then
    lqF t gap I n m i + (if av - totG gap (lqF t gap I n m) n < sumF (pack (zA t) (waG t gap I n m) n) (rk (zA t) n) then shr (av - totG gap (lqF t gap I n m) n) (pack (zA t) (waG t gap I n m) n) (rk (zA t) n) (rk (zA t) i) else waG t gap I n m i)
  else lqF t gap I n m i
noncomputable def reG (av : Int) (t : Nat → Tk) (gap : Int) (I : Nat → It) (n m : Nat) : Int := spcF av gap n - sumF (fun i => if zF t i then s1G av t gap I n m i else 0) n
noncomputable def fxG (t : Nat → Tk) (gap : Int) (I : Nat → It) (n m : Nat) (i : Nat) : Fx := ⟨0, min (lqF t gap I n m i) 1048576, 1048576, (t i).nn, 0⟩
noncomputable def trF (av : Int) (t : Nat → Tk) (gap : Int) (I : Nat → It) (n m : Nat) (i : Nat) : Int :=
  if zF t i then s1G av t gap I n m i else resF (max 0 (reG av t gap I n m)) 0 (fun k => fxG t gap I n m (selN (zF t) n k)) (rk (zF t) n) (rk (zF t) i)

def KTk (k : Nat) : Prop := ∀ (av gap : Int) (p q : Option Addr) (n m c d : Nat) (t : Nat → Tk) (I : Nat → It) (w : World), SRow w p n 2 (trC t) → SRow w q m 4 (itC I) → n ≤ c → n ≤ 100000 → m ≤ 100000 →
  Calls Try.prog k #[.int .i64 av, .int .i64 gap, .slice p n c, .slice q m d] w fun e w' => ∃ r u, e = .returned (.tuple #[.slice r (if erG av gap n t m I = 0 then n else 0) u, .int .i64 (erG av gap n t m I)]) ∧ Reads w' r (if erG av gap n t m I = 0 then n else 0) (trF av t gap I n m) ∧ Below w.heap.size w w'
def KLs (k : Nat) : Prop := ∀ (gap : Int) (p q : Option Addr) (n m c d : Nat) (t : Nat → Tk) (I : Nat → It) (w : World), SRow w p n 2 (trC t) → SRow w q m 4 (itC I) → n ≤ c → n ≤ 100000 → m ≤ 100000 →
  Calls Try.prog k #[.int .i64 gap, .slice p n c, .slice q m d] w fun e w' => e = .returned (.int .i64 (if erG 0 gap n t m I = 0 then totG gap (lqF t gap I n m) n else 0)) ∧ Below w.heap.size w w'
def KMs (k : Nat) : Prop := ∀ (gap : Int) (p q : Option Addr) (n m c d : Nat) (t : Nat → Tk) (I : Nat → It) (w : World), SRow w p n 2 (trC t) → SRow w q m 4 (itC I) → n ≤ c → n ≤ 100000 → m ≤ 100000 →
  Calls Try.prog k #[.int .i64 gap, .slice p n c, .slice q m d] w fun e w' => e = .returned (.int .i64 (if erG 0 gap n t m I = 0 then totG gap (mqF t gap I n m) n else 0)) ∧ Below w.heap.size w w'

/-! ### Bounds -/
theorem aG_eq {n : Nat} {x : It} (h : okI n x) : (aG x : Int) = x.at_ ∧ (pG x : Int) = x.sp ∧ aG x + pG x ≤ n ∧ 1 ≤ pG x := by
  obtain ⟨_, _, h1, h2, h3⟩ := h
  unfold aG pG
  omega
theorem kdG_cases (t : Nat → Tk) (a : Nat) : ∀ p, kdG t a p = -1 ∨ kdG t a p = 1 ∨ kdG t a p = 2
  | 0 => Or.inl rfl
  | j + 1 => by
    have := kdG_cases t a j
    simp only [kdG]
    split
    · rename_i h
      rcases h with h | h <;> omega
    · exact this
theorem mxK_bd {P : Nat → Bool} {f : Nat → Int} {B : Int} (hB : 0 ≤ B) : ∀ {m : Nat}, (∀ k, k < m → f k ≤ B) → 0 ≤ mxK P f m ∧ mxK P f m ≤ B
  | 0, _ => ⟨Int.le_refl _, hB⟩
  | m + 1, h => by
    have a := mxK_bd (P := P) hB (f := f) (m := m) fun i hi => h i (by omega)
    have b := h m (by omega)
    simp only [mxK]
    split <;> omega
theorem mxK_ge {P : Nat → Bool} {f : Nat → Int} : ∀ {m k : Nat}, k < m → P k = true → f k ≤ mxK P f m
  | m + 1, k, hk, hP => by
    simp only [mxK]
    rcases Nat.lt_or_ge k m with h | h
    · have := mxK_ge (f := f) h hP
      split <;> omega
    · have e : k = m := by omega
      subst e
      rw [if_pos hP]
      omega
section
variable {t : Nat → Tk} {gap : Int} {I : Nat → It} {n m : Nat}
theorem ls0_bd (ht : ∀ i, i < n → okT (t i)) (hI : ∀ k, k < m → okI n (I k)) {i : Nat} (hi : i < n) : 0 ≤ ls0 t I m i ∧ ls0 t I m i ≤ 1048576 := by
  unfold ls0
  split
  · exact (ht i hi).2.1 (by assumption)
  · exact mxK_bd (by omega) fun k hk => (hI k hk).1.2
theorem ms0_bd (ht : ∀ i, i < n → okT (t i)) (hI : ∀ k, k < m → okI n (I k)) {i : Nat} (hi : i < n) : 0 ≤ ms0 t I m i ∧ ms0 t I m i ≤ 1048576 := by
  have a := ls0_bd ht hI hi
  have b := mxK_bd (P := oneB I i) (f := fun k => (I k).mx) (B := 1048576) (by omega) (m := m) fun k hk => (hI k hk).2.1.2
  unfold ms0
  split
  · exact (ht i hi).2.1 (by assumption)
  · omega
/-- What is missing is at most what is wanted. -/
theorem dG_le {want : Int} {x : It} {s : Nat → Int} (hx : okI n x) (hg : 0 ≤ gap) (hs : ∀ i, i < n → 0 ≤ s i) : dG gap want x s ≤ want := by
  have a := aG_eq hx
  have b := sum_nonneg (f := fun j => s (aG x + j)) (pG x) fun j hj => hs _ (by omega)
  have c := Int.mul_nonneg hg (show 0 ≤ (pG x : Int) - 1 by omega)
  unfold dG
  omega
theorem spr_bd {want : Int} {x : It} {s : Nat → Int} {B : Int} (hx : okI n x) (hg : 0 ≤ gap) (hw : want ≤ 1048576) (hs : ∀ i, i < n → 0 ≤ s i ∧ s i ≤ B) {i : Nat} (hi : i < n) :
    s i ≤ sprG t gap want x n s i ∧ sprG t gap want x n s i ≤ B + 1048576 := by
  have d := dG_le (want := want) hx hg fun i hi => (hs i hi).1
  have b := hs i hi
  unfold sprG
  split
  · rename_i h
    obtain ⟨h1, h2, h3⟩ := h
    have := shr_bd (T := dG gap want x s) (ones_good (rk (zG t x (kdG t (aG x) (pG x))) n)) (by omega) (rk_lt hi h3)
    omega
  · omega
theorem add_bd {f s0 : Nat → Int} (hg : 0 ≤ gap) (hI : ∀ k, k < m → okI n (I k)) (hf : ∀ k, k < m → f k ≤ 1048576) (h0 : ∀ i, i < n → 0 ≤ s0 i ∧ s0 i ≤ 1048576) : ∀ k, k ≤ m → ∀ i, i < n → s0 i ≤ addG t gap I n f s0 k i ∧ addG t gap I n f s0 k i ≤ 1048576 + k * 1048576
  | 0, _, i, hi => by have := h0 i hi; simp only [addG]; omega
  | k + 1, hk, i, hi => by
    have ih := add_bd hg hI hf h0 k (by omega)
    have b := ih i hi
    simp only [addG]
    split
    · have := spr_bd (t := t) (want := f k) (s := addG t gap I n f s0 k) (B := 1048576 + k * 1048576) (hI k (by omega)) hg (hf k (by omega)) (fun i hi => by have := ih i hi; have := h0 i hi; omega) hi
      omega
    · omega
theorem ls_bd (hg : 0 ≤ gap) (hm : m ≤ 100) (ht : ∀ i, i < n → okT (t i)) (hI : ∀ k, k < m → okI n (I k)) {i : Nat} (hi : i < n) : 0 ≤ lqF t gap I n m i ∧ lqF t gap I n m i ≤ 106954752 := by
  have := add_bd (t := t) (gap := gap) (f := fun k => (I k).mn) (s0 := ls0 t I m) hg hI (fun k hk => (hI k hk).1.2) (fun i hi => ls0_bd ht hI hi) m (Nat.le_refl _) i hi
  have := ls0_bd ht hI hi
  unfold lqF
  omega
theorem ms_bd (hg : 0 ≤ gap) (hm : m ≤ 100) (ht : ∀ i, i < n → okT (t i)) (hI : ∀ k, k < m → okI n (I k)) {i : Nat} (hi : i < n) : lqF t gap I n m i ≤ mqF t gap I n m i ∧ mqF t gap I n m i ≤ 106954752 := by
  have := add_bd (t := t) (gap := gap) (f := fun k => (I k).mx) (s0 := ms0 t I m) hg hI (fun k hk => (hI k hk).2.1.2) (fun i hi => ms0_bd ht hI hi) m (Nat.le_refl _) i hi
  have := ls_bd hg hm ht hI hi
  unfold mqF
  omega
end
end Go.Proofs.Ytdoenkngmgclmaa
