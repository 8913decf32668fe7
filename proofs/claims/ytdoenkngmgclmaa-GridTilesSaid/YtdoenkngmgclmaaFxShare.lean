/- What greatestFirst of package fixed returns: the indices, by descending element, equal elements by ascending index; the list is a row of at most 1048576 integers that the caller made. -/
import Derived.Test.YtdoenkngmgclmaaFxStable
import Derived.Test.YtdoenkngmgclmaaFxRefs2
namespace Go.Proofs.Ytdoenkngmgclmaa
open Go.Shelf Go.RowKit Go.Lib Go.Sort Go.Proofs

/-- What cmp.Compare returns. -/
def cmpI (x y : Int) : Int := if x < y then -1 else if y < x then 1 else 0
theorem isNaN_any (x : Int) (w : World) : Calls Try.prog 77 #[.int .i64 x] w fun e w' => e = .returned (.bool false) ∧ w' = w := by
  go_enter Try.func77, Try.ntmps77
  go_wp2
  go_ret
  exact ⟨by simp, rfl⟩
theorem compare_any (x y : Int) (w : World) : Calls Try.prog 66 #[.int .i64 x, .int .i64 y] w fun e w' => e = .returned (.int .i64 (cmpI x y)) ∧ w' = w := by
  go_enter Try.func66, Try.ntmps66
  go_wp2_with fail
  refine (isNaN_any _ _).mono ?_
  rintro e w' ⟨rfl, rfl⟩
  go_wp2_with fail
  refine (isNaN_any _ _).mono ?_
  rintro e w' ⟨rfl, rfl⟩
  go_wp2
  all_goals go_ret
  all_goals refine ⟨ret_int ?_, rfl⟩
  all_goals (unfold cmpI; (repeat' split) <;> omega)

/-- The comparison that greatestFirst hands to the sort. -/
theorem closure_any (n : Nat) (r : Nat → Int) (B lb i j : Nat) (w : World) (hB : w.cell? ⟨B, 0, none⟩ = some (.slice (some ⟨lb, 0, none⟩) n n)) (hl : ∀ k, k < n → w.cell? ⟨lb, k, none⟩ = some (.int .i64 (r k)))
    (hi : i < n) (hj : j < n) :
    Calls Try.prog 65 #[.int .i64 i, .int .i64 j, .pointer (some ⟨B, 0, none⟩)] w fun e w' => e = .returned (.int .i64 (cmpI (r j) (r i))) ∧ ∃ q, w' = w.drewN q := by
  have ci := hl i hi
  have cj := hl j hj
  have zi : (i : Int) < (n : Int) := by omega
  have zj : (j : Int) < (n : Int) := by omega
  clear hl
  go_enter Try.func65, Try.ntmps65
  go_wp2
  go_quiet ((go_at_call 66; exact Calls.quiet_of_same (compare_any _ _ _)))
  go_wp2
  go_ret
  exact ⟨rfl, _, rfl⟩

/-- i stands before j: its element is greater, or the two are equal and i is the smaller one. -/
def before (r : Nat → Int) (i j : Nat) : Prop := r j < r i ∨ (r i = r j ∧ i < j)
/-- f lists the numbers below n in the order of 'before'. -/
def Ranked (r : Nat → Int) (n : Nat) (f : Nat → Nat) : Prop :=
  ∃ g : Nat → Nat, (∀ k, g (f k) = k) ∧ (∀ k, f (g k) = k) ∧ (∀ k, n ≤ k → f k = k) ∧ ∀ p q, p < q → q < n → before r (f p) (f q)
theorem Ranked.lt {r : Nat → Int} {n : Nat} {f : Nat → Nat} (h : Ranked r n f) {k : Nat} (hk : k < n) : f k < n := by
  obtain ⟨g, h1, _, h3, _⟩ := h
  exact (into (a := 0) h1 (fun k hk => h3 k (by omega)) (Nat.zero_le _) hk).2

section
variable (m : Nat) (r : Nat → Int)
def encF : Fin (m + 1) → Value := fun x => .int .i64 (x.val : Int)
def cfF : Fin (m + 1) → Fin (m + 1) → Int := fun x y => cmpI (r y.val) (r x.val)
def lsF : Fin (m + 1) → Fin (m + 1) → Bool := fun x y => decide (r y.val < r x.val ∨ (r x.val = r y.val ∧ x.val < y.val))
def idF : Array (Fin (m + 1)) := Array.ofFn (n := m + 1) fun i => i
theorem ltF (x y : Fin (m + 1)) : ltOf (cfF m r) x y = decide (r y.val < r x.val) := by
  unfold ltOf cfF cmpI
  by_cases h : r y.val < r x.val
  · simp [h]
  · by_cases h' : r x.val < r y.val <;> simp [h, h']
theorem finerF : Finer (ltOf (cfF m r)) (lsF m r) where
  swo := by
    constructor
    · intro x; unfold lsF; simp
    · intro x y z h1 h2; unfold lsF at *; simp only [decide_eq_true_eq] at *; omega
    · intro x y z h1 h2; unfold lsF at *; simp only [decide_eq_false_iff_not] at *; omega
  sub x y h := by
    rw [ltF] at h; unfold lsF; simp only [decide_eq_true_eq] at *; omega
theorem idF_get {k : Nat} (h : k < m + 1) : (idF m)[k]! = ⟨k, h⟩ := by
  rw [getElem!_pos (idF m) k (by simpa [idF] using h)]; simp [idF]
theorem size_idF : (idF m).size = m + 1 := by simp [idF]
theorem invF : Inv (ltOf (cfF m r)) (lsF m r) 0 (m + 1) (idF m) := by
  intro p q _ hpq hq hl
  rw [idF_get m (show p < m + 1 by omega), idF_get m hq] at hl ⊢
  rw [ltF]; unfold lsF at hl; simp only [decide_eq_true_eq] at *; omega
theorem ranked_of {e : Array (Fin (m + 1))} (hP : PermI 0 (m + 1) (idF m) e) (hS : SortedIn (lsF m r) 0 (m + 1) e) :
    ∃ f, Ranked r (m + 1) f ∧ ∀ k, k < m + 1 → encF m e[k]! = .int .i64 (f k : Nat) := by
  obtain ⟨f, g, h1, h2, h3, rfl⟩ := hP
  have hf : ∀ k, k < m + 1 → f k < m + 1 := fun k hk => (into h1 h3 (Nat.zero_le _) hk).2
  have he : ∀ k, (hk : k < m + 1) → (pick (idF m) f)[k]! = ⟨f k, hf k hk⟩ := fun k hk => by
    rw [pick_get _ _ (by rw [size_idF]; exact hk), idF_get m (hf k hk)]
  refine ⟨f, ⟨g, h1, h2, fun k hk => h3 k (Or.inr hk), fun p q hpq hq => ?_⟩, fun k hk => by rw [he k hk]; rfl⟩
  have hs := hS p q (Nat.zero_le _) hpq hq
  rw [he p (by omega), he q hq] at hs
  unfold lsF at hs
  simp only [decide_eq_false_iff_not] at hs
  have hne : f p ≠ f q := fun e => by
    have := congrArg g e
    rw [h1, h1] at this
    omega
  unfold before
  omega
end

/-- What greatestFirst leaves: the order in a new row; what was there before is as it was. -/
def Great (r : Nat → Int) (n : Nat) (w : World) (e : Ending) (w' : World) : Prop :=
  ∃ (ob : Nat) (f : Nat → Nat), e = .returned (.slice (some ⟨ob, 0, none⟩) n n) ∧ w.heap.size ≤ ob ∧ ob < w'.heap.size ∧ Below w.heap.size w w' ∧ Ranked r n f ∧ ∀ k, k < n → w'.cell? ⟨ob, k, none⟩ = some (.int .i64 (f k : Nat))

def Filled (lb n : Nat) (w : World) (k : Nat) (wr : World) : Prop :=
  Below w.heap.size w wr ∧ wr.cell? ⟨w.heap.size, 0, none⟩ = some (.slice (some ⟨lb, 0, none⟩) n n) ∧ IRow wr (w.heap.size + 1) n (fun j => if j < k then (j : Int) else 0)
theorem Filled.step {lb n k : Nat} {w wr : World} (h : Filled lb n w k wr) : Filled lb n w (k + 1) (wr.setCell ⟨w.heap.size + 1, k, none⟩ (.int .i64 (k : Int))) := by
  obtain ⟨h1, h2, h3⟩ := h
  refine ⟨h1.setCell (by simp) _, (World.cell?_setCell_other _ _ _ _ (by intro e; simp at e)).trans h2, (h3.set_ k k).congr fun i _ => ?_⟩
  by_cases e : i = k
  · subst e; simp
  · simp only [if_neg e]
    by_cases e' : i < k
    · rw [if_pos e', if_pos (by omega)]
    · rw [if_neg e', if_neg (by omega)]

theorem Filled.sorts {lb m : Nat} {r : Nat → Int} {w wr : World} (hm : m + 1 ≤ 1048576) (hlb : lb < w.heap.size) (hl : IRow w lb (m + 1) r) (h : Filled lb (m + 1) w (m + 1) wr) :
    Sorts (encF m) (cfF m r) 65 #[.pointer (some ⟨w.heap.size, 0, none⟩)] (w.heap.size + 1) 0 (idF m) wr := by
  obtain ⟨h1, h2, h3⟩ := h
  have hb := h3.lt
  refine ⟨enters_of Try.func65 (by kernel_rfl) rfl, CmpReads.lays ?_, ⟨fun _ => rfl, ?_, hb⟩, by rw [size_idF]; omega⟩
  · intro q os dk hs x y
    have hc : ∀ a : Addr, a.block < w.heap.size + 1 → (sortWorld (encF m) wr (w.heap.size + 1) 0 q dk os).cell? a = wr.cell? a := fun a ha => sortWorld_cell _ _ _ _ _ _ _ _ (by omega) (by omega)
    exact closure_any (m + 1) r w.heap.size lb x.val y.val _ ((hc ⟨w.heap.size, 0, none⟩ (by simp)).trans h2)
      (fun k hk => (hc ⟨lb, k, none⟩ (by show lb < _; omega)).trans ((h1.cell (p := ⟨lb, k, none⟩) hlb).trans (hl.cell hk))) x.isLt y.isLt
  · intro j hj
    rw [size_idF] at hj
    rw [idF_get m hj, Nat.zero_add]
    refine ⟨?_, h3.frozen j⟩
    rw [h3.cell hj, if_pos hj]
    rfl

set_option maxHeartbeats 4000000 in
set_option maxRecDepth 100000 in
theorem greatest_any (m n : Nat) (r : Nat → Int) (lb : Nat) (w : World) (hnm : n = m + 1) (hn : n ≤ 1048576) (h : IRow w lb n r) :
    Calls Try.prog 56 #[.slice (some ⟨lb, 0, none⟩) n n] w (Great r n w) := by
  have hlb := h.lt
  have hmk := make_ints n hn
  have HR : Hid (IRow w lb n r) := h
  have HNM := hide hnm
  clear h hnm
  go_enter Try.func56, Try.ntmps56
  go_wp2
  have F0 : Hid (Filled lb n w 0 ((w.alloc (.cells #[.slice (some ⟨lb, 0, none⟩) n n] 22)).alloc (.cells (ints n fun _ => 0) 3))) := by
    refine ⟨((Below.refl _ _).alloc (Nat.le_refl _) _).alloc (by simp) _, by simp, ?_⟩
    have := (IRow.new (w.alloc (.cells #[.slice (some ⟨lb, 0, none⟩) n n] 22)) n (fun _ => 0)).congr (g := fun j => if j < 0 then (j : Int) else 0) (fun i _ => by simp)
    simpa using this
  generalize (w.alloc (.cells #[.slice (some ⟨lb, 0, none⟩) n n] 22)).alloc (.cells (ints n fun _ => 0) 3) = w1 at F0 ⊢
  go_loopg [10] (n + 1) (fun g1 vk wr => ∃ k : Nat, vk = .int .i64 k ∧ k ≤ n ∧ n - k < g1 ∧ Hid (Filled lb n w k wr))
  case atStart => exact ⟨0, by go_num, by omega, by omega, F0⟩
  case round =>
    clear F0
    obtain ⟨k, rfl, hk, hg, F1⟩ := hrel
    by_cases hlt : k < n
    · have hltz : (k : Int) < (n : Int) := by omega
      have c1 := F1.out.2.2.cell hlt
      have f1 := F1.out.2.2.frozen k
      have F2 := hide' F1.out.step
      clear F1
      go_wp2
      go_roundg (n - k)
      case measure => omega
      case rel => exact ⟨k + 1, by go_num, by omega, by omega, F2⟩
    · have hltz : ¬ (k : Int) < (n : Int) := by omega
      obtain rfl : n = k := by omega
      have C : Aside (Calls Try.prog 64 #[.slice (some ⟨w.heap.size + 1, 0, none⟩) n n, .func (.func 65) #[] #[.pointer (some ⟨w.heap.size, 0, none⟩)]] wr fun e w' =>
          e = .returned (.tuple #[]) ∧ ∃ f, Ranked r n f ∧ w.heap.size + 1 < w'.heap.size ∧ Below w.heap.size w w' ∧ ∀ k, k < n → w'.cell? ⟨w.heap.size + 1, k, none⟩ = some (.int .i64 (f k : Nat))) := by
        have hnm := HNM.out
        subst hnm
        have T := Filled.sorts hn hlb HR.out F1.out
        refine (sortStable_any (encF m) (cfF m r) (lsF m r) (finerF m r) _ _ _ _ (m + 1) (m + 1) (idF m) wr T (size_idF m).symm (invF m r)).mono ?_
        rintro e w' ⟨he, x, hP, hS, hW⟩
        obtain ⟨f, hf, hc⟩ := ranked_of m r hP hS
        have hb := F1.out.2.2.lt
        have hle := hW.le
        refine ⟨he, f, hf, by omega, F1.out.1.trans ((SW.below_ hW hb).mono (by omega)), fun k hk => ?_⟩
        have hsx : x.size = (idF m).size := hP.size
        have := (hW.holds hb T.R.hH hsx k (by rw [hsx, size_idF]; exact hk)).1
        rw [Nat.zero_add, hc k hk] at this
        exact this
      clear F1 HR HNM
      go_wp2_with fail
      refine C.out.mono ?_
      rintro e w2 ⟨rfl, f, hf, hs, hB, hc⟩
      have P : Aside (Ranked r n f ∧ w.heap.size + 1 < w2.heap.size ∧ Below w.heap.size w w2 ∧ ∀ k, k < n → w2.cell? ⟨w.heap.size + 1, k, none⟩ = some (.int .i64 (f k : Nat))) := ⟨hf, hs, hB, hc⟩
      clear C hf hs hB hc
      go_wp2
      go_ret
      obtain ⟨p1, p2, p3, p4⟩ := P.out
      exact ⟨w.heap.size + 1, f, rfl, by omega, p2, p3, p1, p4⟩
end Go.Proofs.Ytdoenkngmgclmaa
/- What sumOf and checkShare of package fixed return; the list is at most 1048576 integers, each from 0 to 2^31 where the sum is asked. -/
namespace Go.Proofs.Ytdoenkngmgclmaa
open Go.RowKit

/-- The slice at p reads as n integers. -/
def Reads (w : World) (p : Option Addr) (n : Nat) (f : Nat → Int) : Prop := 0 < n → ∃ b off, p = some ⟨b, off, none⟩ ∧ ∀ k, k < n → w.cell? ⟨b, off + k, none⟩ = some (.int .i64 (f k))
theorem IRow.reads {w : World} {b n : Nat} {f : Nat → Int} (h : IRow w b n f) : Reads w (some ⟨b, 0, none⟩) n f := fun _ => ⟨b, 0, rfl, fun k hk => by rw [Nat.zero_add]; exact h.cell hk⟩
theorem lt_of_cell {w : World} {b o : Nat} {v : Value} (h : w.cell? ⟨b, o, none⟩ = some v) : b < w.heap.size := by
  rcases Nat.lt_or_ge b w.heap.size with hl | hl
  · exact hl
  · simp [World.cell?, Array.getElem?_eq_none hl] at h
theorem Reads.below {w w' : World} {p : Option Addr} {n : Nat} {f : Nat → Int} (h : Reads w p n f) (hB : Below w.heap.size w w') : Reads w' p n f := fun hn => by
  obtain ⟨b, off, hp, hc⟩ := h hn
  exact ⟨b, off, hp, fun k hk => (hB.cell (p := ⟨b, off + k, none⟩) (lt_of_cell (hc k hk))).trans (hc k hk)⟩

/-- The sum of the first numbers. -/
def sumF (f : Nat → Int) : Nat → Int
  | 0 => 0
  | k + 1 => sumF f k + f k
theorem sumF_bound {f : Nat → Int} {B : Int} : ∀ (n : Nat), (∀ k, k < n → 0 ≤ f k ∧ f k ≤ B) → 0 ≤ sumF f n ∧ sumF f n ≤ n * B
  | 0, _ => by simp [sumF]
  | n + 1, h => by
    have ih := sumF_bound n (fun k hk => h k (by omega))
    have := h n (by omega)
    have e : ((n + 1 : Nat) : Int) * B = n * B + B := by rw [Int.natCast_succ, Int.add_mul, Int.one_mul]
    simp only [sumF]
    omega

set_option maxHeartbeats 1000000 in
theorem sum_any (p : Option Addr) (n c : Nat) (f : Nat → Int) (w : World) (hn : n ≤ 1048576) (hf : ∀ k, k < n → 0 ≤ f k ∧ f k ≤ 2147483648) (hr : Reads w p n f) :
    Calls Try.prog 55 #[.slice p n c] w fun e w' => e = .returned (.int .i64 (sumF f n)) ∧ w = w' := by
  rcases Nat.eq_zero_or_pos n with rfl | hp
  · clear hr hf
    go_enter Try.func55, Try.ntmps55
    go_wp2
    refine wp_loop_rounds 1 ?_
    rw [rounds_succ]
    go_wp2
    go_ret
    exact ⟨rfl, rfl⟩
  · obtain ⟨b, off, rfl, hc⟩ := hr hp
    have HC := hide hc
    have HF := hide hf
    have hb := fun k (hk : k ≤ n) => sumF_bound (B := 2147483648) k (fun j hj => HF.out j (by omega))
    have HB := hide hb
    clear hr hc hf hb
    go_enter Try.func55, Try.ntmps55
    go_wp2
    go_loop [3, 8] (fun s i => ∃ k : Nat, k ≤ n ∧ i = .int .i64 k ∧ s = .int .i64 (sumF f k)) (fun _ i => n - (intOf i).toNat)
    case atStart => exact ⟨0, Nat.zero_le _, rfl, rfl⟩
    case round =>
      obtain ⟨k, hk, rfl, rfl⟩ := hrel
      by_cases hlt : k < n
      · have hltz : (k : Int) < (n : Int) := by omega
        have ck := HC.out k hlt
        have fk := HF.out k hlt
        have bk := HB.out k hk
        have E : Hid (sumF f (k + 1) = sumF f k + f k) := rfl
        obtain ⟨fk1, fk2⟩ := fk
        obtain ⟨bk1, bk2⟩ := bk
        go_wp2
        go_round
        case rel => exact ⟨k + 1, by omega, by go_num, by rw [E.out]⟩
        case measure => simp [intOf]; omega
      · have hltz : ¬ (k : Int) < (n : Int) := by omega
        obtain rfl : n = k := by omega
        go_wp2
        go_ret
        exact ⟨rfl, rfl⟩

theorem check_long (total : Int) (p : Option Addr) (n c : Nat) (w : World) (hn : 100 < n) :
    Calls Try.prog 54 #[.int .i64 total, .slice p n c] w fun e w' => e = .returned (.int .i64 2) ∧ w = w' := by
  have hz : (100 : Int) < (n : Int) := by omega
  go_enter Try.func54, Try.ntmps54
  go_wp2
  go_ret
  exact ⟨rfl, rfl⟩
theorem check_total (total : Int) (p : Option Addr) (n c : Nat) (w : World) (hn : n ≤ 100) (ht : ¬ (0 ≤ total ∧ total ≤ 1073741824)) :
    Calls Try.prog 54 #[.int .i64 total, .slice p n c] w fun e w' => e = .returned (.int .i64 1) ∧ w = w' := by
  have hz : ¬ (100 : Int) < (n : Int) := by omega
  have C := within_no total 0 1073741824 w ht
  clear ht
  go_enter Try.func54, Try.ntmps54
  go_wp2_with fail
  refine C.mono ?_
  rintro e w' ⟨rfl, rfl⟩
  go_wp2
  go_ret
  exact ⟨rfl, rfl⟩
/-- All of the first n weights are in range. -/
def Good (f : Nat → Int) (n : Nat) : Prop := ∀ k, k < n → 0 ≤ f k ∧ f k ≤ 2147483648

set_option maxHeartbeats 1000000 in
theorem check_any (total : Int) (p : Option Addr) (n c : Nat) (f : Nat → Int) (w : World) (hn : n ≤ 100) (h1 : 0 ≤ total) (h2 : total ≤ 1073741824) (hr : Reads w p n f) :
    Calls Try.prog 54 #[.int .i64 total, .slice p n c] w fun e w' => (Good f n ∧ e = .returned (.int .i64 0) ∨ ¬ Good f n ∧ e = .returned (.int .i64 1)) ∧ w = w' := by
  have hz : ¬ (100 : Int) < (n : Int) := by omega
  have C := within_yes total 0 1073741824 w h1 h2
  rcases Nat.eq_zero_or_pos n with rfl | hp
  · clear hr
    go_enter Try.func54, Try.ntmps54
    go_wp2_with fail
    refine C.mono ?_
    rintro e w' ⟨rfl, rfl⟩
    go_wp2
    refine wp_loop_rounds 1 ?_
    rw [rounds_succ]
    go_wp2
    go_ret
    exact ⟨Or.inl ⟨fun k hk => absurd hk (Nat.not_lt_zero _), rfl⟩, rfl⟩
  · obtain ⟨b, off, rfl, hc⟩ := hr hp
    have HC := hide hc
    clear hr hc
    have POST : Hid (∀ (x : Ending) (w' : World), ((Good f n ∧ x = .returned (.int .i64 0) ∨ ¬ Good f n ∧ x = .returned (.int .i64 1)) ∧ w = w') → ((Good f n ∧ x = .returned (.int .i64 0) ∨ ¬ Good f n ∧ x = .returned (.int .i64 1)) ∧ w = w')) := fun _ _ h => h
    go_enter Try.func54, Try.ntmps54
    go_wp2_with fail
    refine C.mono ?_
    rintro e w' ⟨rfl, rfl⟩
    clear C
    go_wp2
    go_loop [15] (fun i => ∃ k : Nat, k ≤ n ∧ i = .int .i64 k ∧ Hid (Good f k)) (fun i => n - (intOf i).toNat)
    case atStart => exact ⟨0, Nat.zero_le _, rfl, fun k hk => absurd hk (Nat.not_lt_zero _)⟩
    case round =>
      obtain ⟨k, hk, rfl, HG⟩ := hrel
      by_cases hlt : k < n
      · have hltz : (k : Int) < (n : Int) := by omega
        have ck := HC.out k hlt
        by_cases hw : 0 ≤ f k ∧ f k ≤ 2147483648
        · have W := within_yes (f k) 0 2147483648 w hw.1 hw.2
          have HG' : Hid (Good f (k + 1)) := fun j hj => by
            rcases Nat.lt_or_ge j k with h | h
            · exact HG.out j h
            · obtain rfl : j = k := by omega
              exact hw
          clear hw HG
          go_wp2_with fail
          refine W.mono ?_
          rintro e w' ⟨rfl, rfl⟩
          clear W
          go_wp2
          go_round
          case rel => exact ⟨k + 1, by omega, by go_num, HG'⟩
          case measure => simp [intOf]; omega
        · have W := within_no (f k) 0 2147483648 w hw
          have NG : Hid (¬ Good f n) := fun h => hw (h k hlt)
          clear hw HG
          go_wp2_with fail
          refine W.mono ?_
          rintro e w' ⟨rfl, rfl⟩
          clear W
          go_wp2
          go_ret
          exact ⟨Or.inr ⟨NG.out, rfl⟩, rfl⟩
      · have hltz : ¬ (k : Int) < (n : Int) := by omega
        obtain rfl : n = k := by omega
        go_wp2
        go_ret
        exact ⟨Or.inl ⟨HG.out, rfl⟩, rfl⟩
end Go.Proofs.Ytdoenkngmgclmaa
/- What Share of package fixed returns: an error, zeros, or the quotients with one more for those that stand first by their remainders; the weights are a slice of at most 100 readable integers, or more than 100. -/
namespace Go.Proofs.Ytdoenkngmgclmaa
open Go.RowKit

/-- Quotient and remainder of one weight; S is the sum of the weights. -/
def quoF (total S : Int) (f : Nat → Int) (i : Nat) : Int := total * f i / S
def remF (total S : Int) (f : Nat → Int) (i : Nat) : Int := total * f i % S

theorem quo_bound {total S : Int} {f : Nat → Int} {i : Nat} (h1 : 0 ≤ total) (h3 : 0 ≤ f i) (h4 : f i ≤ S) (hS : 0 < S) : 0 ≤ quoF total S f i ∧ quoF total S f i ≤ total := by
  unfold quoF
  have hm : 0 ≤ total * f i := Int.mul_nonneg h1 h3
  refine ⟨Int.ediv_nonneg hm (by omega), ?_⟩
  have : total * f i ≤ total * S := Int.mul_le_mul_of_nonneg_left h4 h1
  exact Int.le_trans (Int.ediv_le_ediv hS this) (by rw [Int.mul_ediv_cancel _ (by omega)]; exact Int.le_refl _)
theorem rem_bound (total S : Int) (f : Nat → Int) (i : Nat) (hS : 0 < S) : 0 ≤ remF total S f i ∧ remF total S f i < S :=
  ⟨Int.emod_nonneg _ (by omega), Int.emod_lt_of_pos _ hS⟩
theorem quo_rem (total S : Int) (f : Nat → Int) (i : Nat) : S * quoF total S f i + remF total S f i = total * f i := by
  unfold quoF remF; exact Int.mul_ediv_add_emod _ _
theorem sum_quo_rem (total S : Int) (f : Nat → Int) : ∀ n, S * sumF (quoF total S f) n + sumF (remF total S f) n = total * sumF f n
  | 0 => by simp [sumF]
  | n + 1 => by
    have ih := sum_quo_rem total S f n
    have := quo_rem total S f n
    simp only [sumF, Int.mul_add]
    omega
theorem sum_lt {f : Nat → Int} {S : Int} : ∀ (n : Nat), (∀ k, k < n → f k < S) → sumF f n + n ≤ n * S
  | 0, _ => by simp [sumF]
  | n + 1, h => by
    have ih := sum_lt n (fun k hk => h k (by omega))
    have := h n (by omega)
    have e : ((n + 1 : Nat) : Int) * S = n * S + S := by rw [Int.natCast_succ, Int.add_mul, Int.one_mul]
    simp only [sumF]
    omega
theorem sum_nonneg {f : Nat → Int} : ∀ (n : Nat), (∀ k, k < n → 0 ≤ f k) → 0 ≤ sumF f n
  | 0, _ => by simp [sumF]
  | n + 1, h => by
    have ih := sum_nonneg n (fun k hk => h k (by omega))
    have := h n (by omega)
    simp only [sumF]
    omega
theorem le_sum {f : Nat → Int} : ∀ (n : Nat), (∀ k, k < n → 0 ≤ f k) → ∀ i, i < n → f i ≤ sumF f n
  | 0, _, i, hi => by omega
  | n + 1, h, i, hi => by
    have := h n (by omega)
    have hs := sum_nonneg n (fun k hk => h k (by omega))
    simp only [sumF]
    by_cases e : i = n
    · subst e; omega
    · have := le_sum n (fun k hk => h k (by omega)) i (by omega)
      omega

/-- How many parts get one more: from 0 to fewer than there are weights. -/
theorem left_bound {total : Int} {f : Nat → Int} {n : Nat} (hf : Good f n) (hS : 0 < sumF f n) :
    0 ≤ total - sumF (quoF total (sumF f n) f) n ∧ total - sumF (quoF total (sumF f n) f) n < n := by
  have e := sum_quo_rem total (sumF f n) f n
  have r0 := sum_nonneg (f := remF total (sumF f n) f) n (fun k _ => (rem_bound total _ f k hS).1)
  have r1 := sum_lt (f := remF total (sumF f n) f) n (fun k _ => (rem_bound total _ f k hS).2)
  have hn : 0 < n := by
    rcases Nat.eq_zero_or_pos n with rfl | h
    · simp [sumF] at hS
    · exact h
  generalize sumF (quoF total (sumF f n) f) n = Q at *
  generalize sumF (remF total (sumF f n) f) n = R at *
  generalize sumF f n = S at *
  have e2 : S * (total - Q) = R := by rw [Int.mul_sub, Int.mul_comm S total]; omega
  constructor
  · rcases Int.lt_or_le (total - Q) 0 with h | h
    · have : S * (total - Q) < 0 := Int.mul_neg_of_pos_of_neg hS h
      omega
    · exact h
  · rcases Int.lt_or_le (total - Q) n with h | h
    · exact h
    · have : S * (n : Int) ≤ S * (total - Q) := Int.mul_le_mul_of_nonneg_left h (by omega)
      rw [Int.mul_comm S (n : Int)] at this
      omega

theorem share_bad (total : Int) (p : Option Addr) (n c : Nat) (code : Int) (w : World) (hc : code = 1 ∨ code = 2)
    (h : Calls Try.prog 54 #[.int .i64 total, .slice p n c] w fun e w' => e = .returned (.int .i64 code) ∧ w = w') :
    Calls Try.prog 46 #[.int .i64 total, .slice p n c] w fun e w' => e = .returned (.tuple #[.slice none 0 0, .int .i64 code]) ∧ w = w' := by
  have H := hide h
  clear h
  rcases hc with rfl | rfl
  all_goals
    go_enter Try.func46, Try.ntmps46
    go_wp2_with fail
    refine H.out.mono ?_
    rintro e w' ⟨rfl, rfl⟩
    go_wp2
    go_ret2
    exact ⟨rfl, rfl⟩

/-- The parts: the quotient, and one more for those that stand among the first. -/
def partF (total S left : Int) (f : Nat → Int) (g : Nat → Nat) (i : Nat) : Int := quoF total S f i + if (g i : Int) < left then 1 else 0
/-- What Share returns where all arguments are in range: a new row. -/
def Shared (total : Int) (f : Nat → Int) (n : Nat) (w : World) (e : Ending) (w' : World) : Prop :=
  ∃ P : Nat → Int, e = .returned (.tuple #[.slice (some ⟨w.heap.size, 0, none⟩) n n, .int .i64 0]) ∧ Below w.heap.size w w' ∧ IRow w' w.heap.size n P ∧
    (sumF f n = 0 ∧ (∀ i, i < n → P i = 0) ∨ 0 < sumF f n ∧ ∃ h g : Nat → Nat, (∀ k, g (h k) = k) ∧ (∀ k, h (g k) = k) ∧ (∀ k, n ≤ k → h k = k) ∧ (∀ i j, i < j → j < n → before (remF total (sumF f n) f) (h i) (h j)) ∧
      ∀ i, i < n → P i = partF total (sumF f n) (total - sumF (quoF total (sumF f n) f) n) f g i)

set_option maxHeartbeats 4000000 in
set_option maxRecDepth 100000 in
theorem share_zero (total : Int) (p : Option Addr) (n c : Nat) (f : Nat → Int) (w : World) (hn : n ≤ 100) (h1 : 0 ≤ total) (h2 : total ≤ 1073741824) (hr : Reads w p n f) (hf : Good f n) (hz : sumF f n = 0) :
    Calls Try.prog 46 #[.int .i64 total, .slice p n c] w (Shared total f n w) := by
  have K := check_any total p n c f w hn h1 h2 hr
  have hmk := make_ints n (by omega)
  have B1 : Below w.heap.size w (w.alloc (.cells (ints n fun _ => 0) 3)) := (Below.refl _ _).alloc (Nat.le_refl _) _
  have SM := sum_any p n c f (w.alloc (.cells (ints n fun _ => 0) 3)) (by omega) hf (hr.below B1)
  rw [hz] at SM
  have HF := hide hf
  have HZ := hide hz
  have HB := hide B1
  clear hr hf hz B1
  go_enter Try.func46, Try.ntmps46
  go_wp2_with fail
  refine K.mono ?_
  rintro e w' ⟨he, rfl⟩
  obtain rfl : e = .returned (.int .i64 0) := by
    rcases he with he | he
    · exact he.2
    · exact absurd HF.out he.1
  clear K he
  go_wp2_with fail
  refine SM.mono ?_
  rintro e w' ⟨rfl, rfl⟩
  clear SM
  go_wp2
  go_ret2
  exact ⟨fun _ => 0, rfl, HB.out, IRow.new w n _, Or.inl ⟨HZ.out, fun _ _ => rfl⟩⟩

/-- The two rows that the first loop fills. -/
def Halfway (total S : Int) (f : Nat → Int) (n : Nat) (w : World) (k : Nat) (wr : World) : Prop :=
  Below w.heap.size w wr ∧ IRow wr w.heap.size n (fun j => if j < k then quoF total S f j else 0) ∧ IRow wr (w.heap.size + 1) n (fun j => if j < k then remF total S f j else 0)
theorem upto_step (q : Nat → Int) (k : Nat) : (fun j => if j = k then q k else if j < k then q j else 0) = fun j => if j < k + 1 then q j else 0 := by
  funext j
  by_cases e : j = k
  · subst e; rw [if_pos rfl, if_pos (by omega)]
  · rw [if_neg e]
    by_cases h : j < k
    · rw [if_pos h, if_pos (by omega)]
    · rw [if_neg h, if_neg (by omega)]
theorem Halfway.step {total S : Int} {f : Nat → Int} {n : Nat} {w wr : World} {k : Nat} (h : Halfway total S f n w k wr) :
    Halfway total S f n w (k + 1) ((wr.setCell ⟨w.heap.size, k, none⟩ (.int .i64 (quoF total S f k))).setCell ⟨w.heap.size + 1, k, none⟩ (.int .i64 (remF total S f k))) := by
  obtain ⟨h1, h2, h3⟩ := h
  have a1 := h2.set_ k (quoF total S f k)
  rw [upto_step] at a1
  have a2 := (h3.far (p := ⟨w.heap.size, k, none⟩) (by simp) (.int .i64 (quoF total S f k))).set_ k (remF total S f k)
  rw [upto_step] at a2
  exact ⟨(h1.setCell (Nat.le_refl _) _).setCell (by simp) _, a1.far (by simp) _, a2⟩
theorem mul_bounds {total x : Int} (h1 : 0 ≤ total) (h2 : total ≤ 1073741824) (h3 : 0 ≤ x) (h4 : x ≤ 2147483648) : 0 ≤ total * x ∧ total * x ≤ 2305843009213693952 := by
  refine ⟨Int.mul_nonneg h1 h3, ?_⟩
  have a : total * x ≤ 1073741824 * x := Int.mul_le_mul_of_nonneg_right h2 h3
  omega

/-- What the second loop has done behind k rounds. -/
def Second (total S : Int) (f : Nat → Int) (n ob : Nat) (h g : Nat → Nat) (w : World) (k : Nat) (wr : World) : Prop :=
  Below w.heap.size w wr ∧ IRow wr w.heap.size n (fun j => quoF total S f j + if g j < k then 1 else 0) ∧ ∀ i, i < n → wr.cell? ⟨ob, i, none⟩ = some (.int .i64 (h i : Nat))
theorem Second.step {total S : Int} {f : Nat → Int} {n ob : Nat} {h g : Nat → Nat} {w wr : World} {k : Nat} (hs : Second total S f n ob h g w k wr) (hob : w.heap.size < ob) (h1 : ∀ i, g (h i) = i) (h2 : ∀ i, h (g i) = i) :
    Second total S f n ob h g w (k + 1) (wr.setCell ⟨w.heap.size, h k, none⟩ (.int .i64 (quoF total S f (h k) + 1))) := by
  obtain ⟨s1, s2, s3⟩ := hs
  refine ⟨s1.setCell (Nat.le_refl _) _, (s2.set_ (h k) (quoF total S f (h k) + 1)).congr fun i _ => ?_, fun i hi => (World.cell?_setCell_other _ _ _ _ (by intro e; simp only [Addr.mk.injEq] at e; omega)).trans (s3 i hi)⟩
  by_cases e : i = h k
  · subst e; rw [if_pos rfl, h1, if_pos (by omega)]
  · have : g i ≠ k := fun e' => e (by rw [← e', h2])
    rw [if_neg e]
    by_cases l : g i < k
    · rw [if_pos l, if_pos (by omega)]
    · rw [if_neg l, if_neg (by omega)]

set_option maxHeartbeats 8000000 in
set_option maxRecDepth 100000 in
theorem share_main (total : Int) (p : Option Addr) (n c : Nat) (f : Nat → Int) (w : World) (hn : n ≤ 100) (h1 : 0 ≤ total) (h2 : total ≤ 1073741824) (hr : Reads w p n f) (hf : Good f n) (hz : 0 < sumF f n) :
    Calls Try.prog 46 #[.int .i64 total, .slice p n c] w (Shared total f n w) := by
  have K := check_any total p n c f w hn h1 h2 hr
  have hmk := make_ints n (by omega)
  have B1 : Below w.heap.size w (w.alloc (.cells (ints n fun _ => 0) 3)) := (Below.refl _ _).alloc (Nat.le_refl _) _
  have SM := sum_any p n c f (w.alloc (.cells (ints n fun _ => 0) 3)) (by omega) hf (hr.below B1)
  obtain ⟨S, hS⟩ : ∃ S, S = sumF f n := ⟨_, rfl⟩
  have hp : 0 < n := by
    rcases Nat.eq_zero_or_pos n with rfl | h
    · simp [sumF] at hz
    · exact h
  have sb := (sumF_bound n hf).2
  rw [← hS] at SM sb hz
  have hS2 : S ≤ 214748364800 := by omega
  have hS3 : (S == 0) = false := by simp; omega
  obtain ⟨b, off, rfl, hc⟩ := hr hp
  have H0 : Hid (Halfway total S f n w 0 ((w.alloc (.cells (ints n fun _ => 0) 3)).alloc (.cells (ints n fun _ => 0) 3))) := by
    refine ⟨B1.alloc (by simp) _, ?_, ?_⟩
    · exact ((IRow.new w n _).alloc _).congr (fun i _ => by simp)
    · have := (IRow.new (w.alloc (.cells (ints n fun _ => 0) 3)) n (fun _ => 0)).congr (g := fun j => if j < 0 then remF total S f j else 0) (fun i _ => by simp)
      simpa using this
  have HF := hide hf
  have HC := hide hc
  have HS := hide hS
  clear hr hf hc hS sb B1
  go_enter Try.func46, Try.ntmps46
  go_wp2_with fail
  refine K.mono ?_
  rintro e w' ⟨he, rfl⟩
  obtain rfl : e = .returned (.int .i64 0) := by
    rcases he with he | he
    · exact he.2
    · exact absurd HF.out he.1
  clear K he
  go_wp2_with fail
  refine SM.mono ?_
  rintro e w' ⟨rfl, rfl⟩
  clear SM
  go_wp2
  clear hS3
  generalize (w.alloc (.cells (ints n fun _ => 0) 3)).alloc (.cells (ints n fun _ => 0) 3) = w1 at H0 ⊢
  go_loopg [33] (n + 1) (fun g1 vk wr => ∃ k : Nat, vk = .int .i64 k ∧ k ≤ n ∧ n - k < g1 ∧ Hid (Halfway total S f n w k wr))
  case atStart => exact ⟨0, by go_num, by omega, by omega, H0⟩
  case round =>
    clear H0
    obtain ⟨k, rfl, hk, hg, H1⟩ := hrel
    by_cases hlt : k < n
    · have hltz : (k : Int) < (n : Int) := by omega
      have ck := (H1.out.1.cell (p := ⟨b, off + k, none⟩) (lt_of_cell (HC.out k hlt))).trans (HC.out k hlt)
      have c1 := H1.out.2.1.cell hlt
      have f1 := H1.out.2.1.frozen k
      have c2 := H1.out.2.2.cell hlt
      have f2 := H1.out.2.2.frozen k
      have H2 := hide H1.out.step
      have fk := HF.out k hlt
      obtain ⟨m1, m2⟩ := mul_bounds h1 h2 fk.1 fk.2
      have ew : IntKind.i64.wrap (total * f k) = total * f k := wrap_in (by omega)
      have q1 : 0 ≤ total * f k / S := Int.ediv_nonneg m1 (by omega)
      have q2 : total * f k / S ≤ total * f k := Int.ediv_le_self _ m1
      have hne : ¬ S = 0 := by omega
      clear H1 fk
      unfold quoF remF at H2
      go_wp2
      go_roundg (n - k)
      case measure => omega
      case rel => exact ⟨k + 1, by go_num, by omega, by omega, H2⟩
    · have hltz : ¬ (k : Int) < (n : Int) := by omega
      obtain rfl : n = k := by omega
      have R1 : IRow wr (w.heap.size + 1) n (remF total S f) := H1.out.2.2.congr (fun i hi => by rw [if_pos hi])
      have P1 : IRow wr w.heap.size n (quoF total S f) := H1.out.2.1.congr (fun i hi => by rw [if_pos hi])
      have GR := hide (greatest_any (n - 1) n (remF total S f) (w.heap.size + 1) wr (by omega) (by omega) R1)
      have P1 := hide P1
      have B1 := hide H1.out.1
      clear H1 R1
      go_wp2_with fail
      refine GR.out.mono ?_
      rintro e w2 ⟨ob, h, rfl, ho1, ho2, hB, hR, hc⟩
      have hlt0 := P1.out.lt
      have hob : w.heap.size < ob := by have := B1.out.size; omega
      have P2 : IRow w2 w.heap.size n (quoF total S f) := P1.out.below hB hlt0
      have B2 := hide (B1.out.trans (hB.mono B1.out.size))
      have hq := fun i (hi : i < n) => quo_bound (total := total) (S := S) (f := f) h1 (HF.out i hi).1 (by rw [HS.out]; exact le_sum n (fun k hk => (HF.out k hk).1) i hi) hz
      have SQ := sum_any (some ⟨w.heap.size, 0, none⟩) n n (quoF total S f) w2 (by omega) (fun i hi => ⟨(hq i hi).1, by have := (hq i hi).2; omega⟩) P2.reads
      have lb := left_bound (total := total) HF.out (by rw [← HS.out]; exact hz)
      rw [← HS.out] at lb
      have HQ := hide hq
      have HR := hide hR
      have HO := hide hc
      have P2 := hide P2
      obtain ⟨Q, eQ⟩ : ∃ Q, Q = sumF (quoF total S f) n := ⟨_, rfl⟩
      have qb := sumF_bound (B := total) n hq
      rw [← eQ] at SQ lb qb
      obtain ⟨L, eL⟩ : ∃ L : Nat, (L : Int) = total - Q := ⟨(total - Q).toNat, by omega⟩
      have EQ := hide eQ
      have EL := hide eL
      have l1 : 0 ≤ total - Q := by omega
      have l2 : total - Q ≤ (n : Int) := by omega
      have l3 : L < n := by omega
      have l4 : (total - Q).toNat = L := by omega
      have qb1 := qb.1
      have qb2 : Q ≤ total := by omega
      clear GR P1 B1 hB hR hc hq eQ eL lb qb
      go_wp2_with fail
      refine SQ.mono ?_
      rintro e w3 ⟨rfl, rfl⟩
      clear SQ
      go_wp2
      have HN := hide (fun k (hk : k < n) => HR.out.lt hk)
      obtain ⟨g, g1, g2, g3, g4⟩ := HR.out
      have S0 : Hid (Second total S f n ob h g w 0 w2) := ⟨B2.out, P2.out.congr (fun i _ => by simp), HO.out⟩
      have G1 := hide g1
      have G2 := hide g2
      have G3 := hide g3
      have G4 := hide g4
      clear l4 HR P2 B2 HO g1 g2 g3 g4 hlt0
      go_loopg [63] (L + 1) (fun g9 vk wr => ∃ k : Nat, vk = .int .i64 k ∧ k ≤ L ∧ L - k < g9 ∧ Hid (Second total S f n ob h g w k wr))
      case atStart => exact ⟨0, by go_num, by omega, by omega, S0⟩
      case round =>
        clear S0
        obtain ⟨wo, rfl⟩ : ∃ wo : World, wo = wr := ⟨_, rfl⟩
        obtain ⟨k, rfl, hk, hg, S1⟩ := hrel
        by_cases hlt : k < L
        · have hltz : (k : Int) < (L : Int) := by omega
          have ck := S1.out.2.2 k (by omega)
          have hkn := HN.out k (by omega)
          have hknz : ((h k : Nat) : Int) < (n : Int) := by omega
          have c1 := S1.out.2.1.cell hkn
          rw [G1.out, if_neg (Nat.lt_irrefl _), Int.add_zero] at c1
          have f1 := S1.out.2.1.frozen (h k)
          have S2 := hide (S1.out.step hob G1.out G2.out)
          have hq := HQ.out (h k) hkn
          obtain ⟨q1, q2⟩ := hq
          clear S1
          generalize quoF total S f (h k) = V at c1 S2 q1 q2
          generalize h k = hk' at ck hkn hknz c1 f1 S2
          go_wp2
          go_roundg (L - k)
          case measure => omega
          case rel => exact ⟨k + 1, by go_num, by omega, by omega, S2⟩
        · have hltz : ¬ (k : Int) < (L : Int) := by omega
          obtain rfl : L = k := by omega
          go_wp2
          go_ret2
          obtain ⟨s1, s2, _⟩ := S1.out
          refine ⟨_, rfl, s1, s2, Or.inr ⟨by rw [← HS.out]; exact hz, h, g, G1.out, G2.out, G3.out, fun i j hij hj => by rw [← HS.out]; exact G4.out i j hij hj, fun i _ => ?_⟩⟩
          unfold partF
          rw [← HS.out, ← EQ.out, ← EL.out]
          congr 1
          by_cases l : g i < L
          · rw [if_pos l, if_pos (by omega)]
          · rw [if_neg l, if_neg (by omega)]
end Go.Proofs.Ytdoenkngmgclmaa
