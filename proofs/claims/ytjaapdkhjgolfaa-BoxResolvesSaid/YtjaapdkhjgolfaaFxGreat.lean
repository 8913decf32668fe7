/- What greatestFirst of package fixed returns: the indices, by descending element, equal elements by ascending index; the list is a row of at most 1048576 integers that the caller made. -/
import Derived.Test.YtjaapdkhjgolfaaFxMem
import Derived.Test.YtjaapdkhjgolfaaFxRefs2
namespace Go.Proofs.Ytjaapdkhjgolfaa
open Go.Shelf Go.RowKit Go.Lib Go.Sort Go.Proofs

/-- What cmp.Compare returns. -/
def cmpI (x y : Int) : Int := if x < y then -1 else if y < x then 1 else 0
theorem isNaN_any (x : Int) (w : World) : Calls Try.prog 63 #[.int .i64 x] w fun e w' => e = .returned (.bool false) ∧ w' = w := by
  go_enter Try.func63, Try.ntmps63
  go_wp2
  go_ret
  exact ⟨by simp, rfl⟩
theorem compare_any (x y : Int) (w : World) : Calls Try.prog 59 #[.int .i64 x, .int .i64 y] w fun e w' => e = .returned (.int .i64 (cmpI x y)) ∧ w' = w := by
  go_enter Try.func59, Try.ntmps59
  go_wp2_with fail
  refine (isNaN_any _ _).mono ?_
  rintro e w' ⟨rfl, rfl⟩
  go_wp2_with fail
  refine (isNaN_any _ _).mono ?_
  rintro e w' ⟨rfl, rfl⟩
  go_wp2
  all_goals go_ret
  all_goals refine ⟨ret_int ?_, rfl⟩
  all_goals (unfold cmpI; (repeat' split) <;> omega)

/-- The comparison that greatestFirst hands to the sort. -/
theorem closure_any (n : Nat) (r : Nat → Int) (B lb i j : Nat) (w : World) (hB : w.cell? ⟨B, 0, none⟩ = some (.slice (some ⟨lb, 0, none⟩) n n)) (hl : ∀ k, k < n → w.cell? ⟨lb, k, none⟩ = some (.int .i64 (r k)))
    (hi : i < n) (hj : j < n) :
    Calls Try.prog 58 #[.int .i64 i, .int .i64 j, .pointer (some ⟨B, 0, none⟩)] w fun e w' => e = .returned (.int .i64 (cmpI (r j) (r i))) ∧ ∃ q, w' = w.drewN q := by
  have ci := hl i hi
  have cj := hl j hj
  have zi : (i : Int) < (n : Int) := by omega
  have zj : (j : Int) < (n : Int) := by omega
  clear hl
  go_enter Try.func58, Try.ntmps58
  go_wp2
  go_quiet ((go_at_call 59; exact Calls.quiet_of_same (compare_any _ _ _)))
  go_wp2
  go_ret
  exact ⟨rfl, _, rfl⟩

/-- i stands before j: its element is greater, or the two are equal and i is the smaller one. -/
def before (r : Nat → Int) (i j : Nat) : Prop := r j < r i ∨ (r i = r j ∧ i < j)
/-- f lists the numbers below n in the order of 'before'. -/
def Ranked (r : Nat → Int) (n : Nat) (f : Nat → Nat) : Prop :=
  ∃ g : Nat → Nat, (∀ k, g (f k) = k) ∧ (∀ k, f (g k) = k) ∧ (∀ k, n ≤ k → f k = k) ∧ ∀ p q, p < q → q < n → before r (f p) (f q)
theorem Ranked.lt {r : Nat → Int} {n : Nat} {f : Nat → Nat} (h : Ranked r n f) {k : Nat} (hk : k < n) : f k < n := by
  obtain ⟨g, h1, _, h3, _⟩ := h
  exact (into (a := 0) h1 (fun k hk => h3 k (by omega)) (Nat.zero_le _) hk).2

section
variable (m : Nat) (r : Nat → Int)
def encF : Fin (m + 1) → Value := fun x => .int .i64 (x.val : Int)
def cfF : Fin (m + 1) → Fin (m + 1) → Int := fun x y => cmpI (r y.val) (r x.val)
def lsF : Fin (m + 1) → Fin (m + 1) → Bool := fun x y => decide (r y.val < r x.val ∨ (r x.val = r y.val ∧ x.val < y.val))
def idF : Array (Fin (m + 1)) := Array.ofFn (n := m + 1) fun i => i
theorem ltF (x y : Fin (m + 1)) : ltOf (cfF m r) x y = decide (r y.val < r x.val) := by
  unfold ltOf cfF cmpI
  by_cases h : r y.val < r x.val
  · simp [h]
  · by_cases h' : r x.val < r y.val <;> simp [h, h']
theorem finerF : Finer (ltOf (cfF m r)) (lsF m r) where
  swo := by
    constructor
    · intro x; unfold lsF; simp
    · intro x y z h1 h2; unfold lsF at *; simp only [decide_eq_true_eq] at *; omega
    · intro x y z h1 h2; unfold lsF at *; simp only [decide_eq_false_iff_not] at *; omega
  sub x y h := by
    rw [ltF] at h; unfold lsF; simp only [decide_eq_true_eq] at *; omega
theorem idF_get {k : Nat} (h : k < m + 1) : (idF m)[k]! = ⟨k, h⟩ := by
  rw [getElem!_pos (idF m) k (by simpa [idF] using h)]; simp [idF]
theorem size_idF : (idF m).size = m + 1 := by simp [idF]
theorem invF : Inv (ltOf (cfF m r)) (lsF m r) 0 (m + 1) (idF m) := by
  intro p q _ hpq hq hl
  rw [idF_get m (show p < m + 1 by omega), idF_get m hq] at hl ⊢
  rw [ltF]; unfold lsF at hl; simp only [decide_eq_true_eq] at *; omega
theorem ranked_of {e : Array (Fin (m + 1))} (hP : PermI 0 (m + 1) (idF m) e) (hS : SortedIn (lsF m r) 0 (m + 1) e) :
    ∃ f, Ranked r (m + 1) f ∧ ∀ k, k < m + 1 → encF m e[k]! = .int .i64 (f k : Nat) := by
  obtain ⟨f, g, h1, h2, h3, rfl⟩ := hP
  have hf : ∀ k, k < m + 1 → f k < m + 1 := fun k hk => (into h1 h3 (Nat.zero_le _) hk).2
  have he : ∀ k, (hk : k < m + 1) → (pick (idF m) f)[k]! = ⟨f k, hf k hk⟩ := fun k hk => by
    rw [pick_get _ _ (by rw [size_idF]; exact hk), idF_get m (hf k hk)]
  refine ⟨f, ⟨g, h1, h2, fun k hk => h3 k (Or.inr hk), fun p q hpq hq => ?_⟩, fun k hk => by rw [he k hk]; rfl⟩
  have hs := hS p q (Nat.zero_le _) hpq hq
  rw [he p (by omega), he q hq] at hs
  unfold lsF at hs
  simp only [decide_eq_false_iff_not] at hs
  have hne : f p ≠ f q := fun e => by
    have := congrArg g e
    rw [h1, h1] at this
    omega
  unfold before
  omega
end

/-- What greatestFirst leaves: the order in a new row; what was there before is as it was. -/
def Great (r : Nat → Int) (n : Nat) (w : World) (e : Ending) (w' : World) : Prop :=
  ∃ (ob : Nat) (f : Nat → Nat), e = .returned (.slice (some ⟨ob, 0, none⟩) n n) ∧ w.heap.size ≤ ob ∧ ob < w'.heap.size ∧ Below w.heap.size w w' ∧ Ranked r n f ∧ ∀ k, k < n → w'.cell? ⟨ob, k, none⟩ = some (.int .i64 (f k : Nat))

def Filled (lb n : Nat) (w : World) (k : Nat) (wr : World) : Prop :=
  Below w.heap.size w wr ∧ wr.cell? ⟨w.heap.size, 0, none⟩ = some (.slice (some ⟨lb, 0, none⟩) n n) ∧ IRow wr (w.heap.size + 1) n (fun j => if j < k then (j : Int) else 0)
theorem Filled.step {lb n k : Nat} {w wr : World} (h : Filled lb n w k wr) : Filled lb n w (k + 1) (wr.setCell ⟨w.heap.size + 1, k, none⟩ (.int .i64 (k : Int))) := by
  obtain ⟨h1, h2, h3⟩ := h
  refine ⟨h1.setCell (by simp) _, (World.cell?_setCell_other _ _ _ _ (by intro e; simp at e)).trans h2, (h3.set_ k k).congr fun i _ => ?_⟩
  by_cases e : i = k
  · subst e; simp
  · simp only [if_neg e]
    by_cases e' : i < k
    · rw [if_pos e', if_pos (by omega)]
    · rw [if_neg e', if_neg (by omega)]

theorem Filled.sorts {lb m : Nat} {r : Nat → Int} {w wr : World} (hm : m + 1 ≤ 1048576) (hlb : lb < w.heap.size) (hl : IRow w lb (m + 1) r) (h : Filled lb (m + 1) w (m + 1) wr) :
    Sorts (encF m) (cfF m r) 58 #[.pointer (some ⟨w.heap.size, 0, none⟩)] (w.heap.size + 1) 0 (idF m) wr := by
  obtain ⟨h1, h2, h3⟩ := h
  have hb := h3.lt
  refine ⟨enters_of Try.func58 (by kernel_rfl) rfl, CmpReads.lays ?_, ⟨fun _ => rfl, ?_, hb⟩, by rw [size_idF]; omega⟩
  · intro q os dk hs x y
    have hc : ∀ a : Addr, a.block < w.heap.size + 1 → (sortWorld (encF m) wr (w.heap.size + 1) 0 q dk os).cell? a = wr.cell? a := fun a ha => sortWorld_cell _ _ _ _ _ _ _ _ (by omega) (by omega)
    exact closure_any (m + 1) r w.heap.size lb x.val y.val _ ((hc ⟨w.heap.size, 0, none⟩ (by simp)).trans h2)
      (fun k hk => (hc ⟨lb, k, none⟩ (by show lb < _; omega)).trans ((h1.cell (p := ⟨lb, k, none⟩) hlb).trans (hl.cell hk))) x.isLt y.isLt
  · intro j hj
    rw [size_idF] at hj
    rw [idF_get m hj, Nat.zero_add]
    refine ⟨?_, h3.frozen j⟩
    rw [h3.cell hj, if_pos hj]
    rfl

set_option maxHeartbeats 4000000 in
set_option maxRecDepth 100000 in
theorem greatest_any (m n : Nat) (r : Nat → Int) (lb : Nat) (w : World) (hnm : n = m + 1) (hn : n ≤ 1048576) (h : IRow w lb n r) :
    Calls Try.prog 54 #[.slice (some ⟨lb, 0, none⟩) n n] w (Great r n w) := by
  have hlb := h.lt
  have hmk := make_ints n hn
  have HR : Hid (IRow w lb n r) := h
  have HNM := hide hnm
  clear h hnm
  go_enter Try.func54, Try.ntmps54
  go_wp2
  have F0 : Hid (Filled lb n w 0 ((w.alloc (.cells #[.slice (some ⟨lb, 0, none⟩) n n] 23)).alloc (.cells (ints n fun _ => 0) 3))) := by
    refine ⟨((Below.refl _ _).alloc (Nat.le_refl _) _).alloc (by simp) _, by simp, ?_⟩
    have := (IRow.new (w.alloc (.cells #[.slice (some ⟨lb, 0, none⟩) n n] 23)) n (fun _ => 0)).congr (g := fun j => if j < 0 then (j : Int) else 0) (fun i _ => by simp)
    simpa using this
  generalize (w.alloc (.cells #[.slice (some ⟨lb, 0, none⟩) n n] 23)).alloc (.cells (ints n fun _ => 0) 3) = w1 at F0 ⊢
  go_loopg [10] (n + 1) (fun g1 vk wr => ∃ k : Nat, vk = .int .i64 k ∧ k ≤ n ∧ n - k < g1 ∧ Hid (Filled lb n w k wr))
  case atStart => exact ⟨0, by go_num, by omega, by omega, F0⟩
  case round =>
    clear F0
    obtain ⟨k, rfl, hk, hg, F1⟩ := hrel
    by_cases hlt : k < n
    · have hltz : (k : Int) < (n : Int) := by omega
      have c1 := F1.out.2.2.cell hlt
      have f1 := F1.out.2.2.frozen k
      have F2 := hide' F1.out.step
      clear F1
      go_wp2
      go_roundg (n - k)
      case measure => omega
      case rel => exact ⟨k + 1, by go_num, by omega, by omega, F2⟩
    · have hltz : ¬ (k : Int) < (n : Int) := by omega
      obtain rfl : n = k := by omega
      have C : Aside (Calls Try.prog 57 #[.slice (some ⟨w.heap.size + 1, 0, none⟩) n n, .func (.func 58) #[] #[.pointer (some ⟨w.heap.size, 0, none⟩)]] wr fun e w' =>
          e = .returned (.tuple #[]) ∧ ∃ f, Ranked r n f ∧ w.heap.size + 1 < w'.heap.size ∧ Below w.heap.size w w' ∧ ∀ k, k < n → w'.cell? ⟨w.heap.size + 1, k, none⟩ = some (.int .i64 (f k : Nat))) := by
        have hnm := HNM.out
        subst hnm
        have T := Filled.sorts hn hlb HR.out F1.out
        refine (sortStable_any (encF m) (cfF m r) (lsF m r) (finerF m r) _ _ _ _ (m + 1) (m + 1) (idF m) wr T (size_idF m).symm (invF m r)).mono ?_
        rintro e w' ⟨he, x, hP, hS, hW⟩
        obtain ⟨f, hf, hc⟩ := ranked_of m r hP hS
        have hb := F1.out.2.2.lt
        have hle := hW.le
        refine ⟨he, f, hf, by omega, F1.out.1.trans ((SW.below_ hW hb).mono (by omega)), fun k hk => ?_⟩
        have hsx : x.size = (idF m).size := hP.size
        have := (hW.holds hb T.R.hH hsx k (by rw [hsx, size_idF]; exact hk)).1
        rw [Nat.zero_add, hc k hk] at this
        exact this
      clear F1 HR HNM
      go_wp2_with fail
      refine C.out.mono ?_
      rintro e w2 ⟨rfl, f, hf, hs, hB, hc⟩
      have P : Aside (Ranked r n f ∧ w.heap.size + 1 < w2.heap.size ∧ Below w.heap.size w w2 ∧ ∀ k, k < n → w2.cell? ⟨w.heap.size + 1, k, none⟩ = some (.int .i64 (f k : Nat))) := ⟨hf, hs, hB, hc⟩
      clear C hf hs hB hc
      go_wp2
      go_ret
      obtain ⟨p1, p2, p3, p4⟩ := P.out
      exact ⟨w.heap.size + 1, f, rfl, by omega, p2, p3, p1, p4⟩
end Go.Proofs.Ytjaapdkhjgolfaa
