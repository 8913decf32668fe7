/- What Share of package fixed returns: an error, zeros, or the quotients with one more for those that stand first by their remainders; the weights are a slice of at most 100 readable integers, or more than 100. -/
import Derived.Test.YtjaapdkhjgolfaaFxCheck
namespace Go.Proofs.Ytjaapdkhjgolfaa
open Go.RowKit

/-- Quotient and remainder of one weight; S is the sum of the weights. -/
def quoF (total S : Int) (f : Nat → Int) (i : Nat) : Int := total * f i / S
def remF (total S : Int) (f : Nat → Int) (i : Nat) : Int := total * f i % S

theorem quo_bound {total S : Int} {f : Nat → Int} {i : Nat} (h1 : 0 ≤ total) (h3 : 0 ≤ f i) (h4 : f i ≤ S) (hS : 0 < S) : 0 ≤ quoF total S f i ∧ quoF total S f i ≤ total := by
  unfold quoF
  have hm : 0 ≤ total * f i := Int.mul_nonneg h1 h3
  refine ⟨Int.ediv_nonneg hm (by omega), ?_⟩
  have : total * f i ≤ total * S := Int.mul_le_mul_of_nonneg_left h4 h1
  exact Int.le_trans (Int.ediv_le_ediv hS this) (by rw [Int.mul_ediv_cancel _ (by omega)]; exact Int.le_refl _)
theorem rem_bound (total S : Int) (f : Nat → Int) (i : Nat) (hS : 0 < S) : 0 ≤ remF total S f i ∧ remF total S f i < S :=
  ⟨Int.emod_nonneg _ (by omega), Int.emod_lt_of_pos _ hS⟩
theorem quo_rem (total S : Int) (f : Nat → Int) (i : Nat) : S * quoF total S f i + remF total S f i = total * f i := by
  unfold quoF remF; exact Int.mul_ediv_add_emod _ _
theorem sum_quo_rem (total S : Int) (f : Nat → Int) : ∀ n, S * sumF (quoF total S f) n + sumF (remF total S f) n = total * sumF f n
  | 0 => by simp [sumF]
  | n + 1 => by
    have ih := sum_quo_rem total S f n
    have := quo_rem total S f n
    simp only [sumF, Int.mul_add]
    omega
theorem sum_lt {f : Nat → Int} {S : Int} : ∀ (n : Nat), (∀ k, k < n → f k < S) → sumF f n + n ≤ n * S
  | 0, _ => by simp [sumF]
  | n + 1, h => by
    have ih := sum_lt n (fun k hk => h k (by omega))
    have := h n (by omega)
    have e : ((n + 1 : Nat) : Int) * S = n * S + S := by rw [Int.natCast_succ, Int.add_mul, Int.one_mul]
    simp only [sumF]
    omega
theorem sum_nonneg {f : Nat → Int} : ∀ (n : Nat), (∀ k, k < n → 0 ≤ f k) → 0 ≤ sumF f n
  | 0, _ => by simp [sumF]
  | n + 1, h => by
    have ih := sum_nonneg n (fun k hk => h k (by omega))
    have := h n (by omega)
    simp only [sumF]
    omega
theorem le_sum {f : Nat → Int} : ∀ (n : Nat), (∀ k, k < n → 0 ≤ f k) → ∀ i, i < n → f i ≤ sumF f n
  | 0, _, i, hi => by omega
  | n + 1, h, i, hi => by
    have := h n (by omega)
    have hs := sum_nonneg n (fun k hk => h k (by omega))
    simp only [sumF]
    by_cases e : i = n
    · subst e; omega
    · have := le_sum n (fun k hk => h k (by omega)) i (by omega)
      omega

/-- How many parts get one more: from 0 to fewer than there are weights. -/
theorem left_bound {total : Int} {f : Nat → Int} {n : Nat} (hf : Good f n) (hS : 0 < sumF f n) :
    0 ≤ total - sumF (quoF total (sumF f n) f) n ∧ total - sumF (quoF total (sumF f n) f) n < n := by
  have e := sum_quo_rem total (sumF f n) f n
  have r0 := sum_nonneg (f := remF total (sumF f n) f) n (fun k _ => (rem_bound total _ f k hS).1)
  have r1 := sum_lt (f := remF total (sumF f n) f) n (fun k _ => (rem_bound total _ f k hS).2)
  have hn : 0 < n := by
    rcases Nat.eq_zero_or_pos n with rfl | h
    · simp [sumF] at hS
    · exact h
  generalize sumF (quoF total (sumF f n) f) n = Q at *
  generalize sumF (remF total (sumF f n) f) n = R at *
  generalize sumF f n = S at *
  have e2 : S * (total - Q) = R := by rw [Int.mul_sub, Int.mul_comm S total]; omega
  constructor
  · rcases Int.lt_or_le (total - Q) 0 with h | h
    · have : S * (total - Q) < 0 := Int.mul_neg_of_pos_of_neg hS h
      omega
    · exact h
  · rcases Int.lt_or_le (total - Q) n with h | h
    · exact h
    · have : S * (n : Int) ≤ S * (total - Q) := Int.mul_le_mul_of_nonneg_left h (by omega)
      rw [Int.mul_comm S (n : Int)] at this
      omega

theorem share_bad (total : Int) (p : Option Addr) (n c : Nat) (code : Int) (w : World) (hc : code = 1 ∨ code = 2)
    (h : Calls Try.prog 52 #[.int .i64 total, .slice p n c] w fun e w' => e = .returned (.int .i64 code) ∧ w = w') :
    Calls Try.prog 47 #[.int .i64 total, .slice p n c] w fun e w' => e = .returned (.tuple #[.slice none 0 0, .int .i64 code]) ∧ w = w' := by
  have H := hide h
  clear h
  rcases hc with rfl | rfl
  all_goals
    go_enter Try.func47, Try.ntmps47
    go_wp2_with fail
    refine H.out.mono ?_
    rintro e w' ⟨rfl, rfl⟩
    go_wp2
    go_ret2
    exact ⟨rfl, rfl⟩

/-- The parts: the quotient, and one more for those that stand among the first. -/
def partF (total S left : Int) (f : Nat → Int) (g : Nat → Nat) (i : Nat) : Int := quoF total S f i + if (g i : Int) < left then 1 else 0
/-- What Share returns where all arguments are in range: a new row. -/
def Shared (total : Int) (f : Nat → Int) (n : Nat) (w : World) (e : Ending) (w' : World) : Prop :=
  ∃ P : Nat → Int, e = .returned (.tuple #[.slice (some ⟨w.heap.size, 0, none⟩) n n, .int .i64 0]) ∧ Below w.heap.size w w' ∧ IRow w' w.heap.size n P ∧
    (sumF f n = 0 ∧ (∀ i, i < n → P i = 0) ∨ 0 < sumF f n ∧ ∃ h g : Nat → Nat, (∀ k, g (h k) = k) ∧ (∀ k, h (g k) = k) ∧ (∀ k, n ≤ k → h k = k) ∧ (∀ i j, i < j → j < n → before (remF total (sumF f n) f) (h i) (h j)) ∧
      ∀ i, i < n → P i = partF total (sumF f n) (total - sumF (quoF total (sumF f n) f) n) f g i)

set_option maxHeartbeats 4000000 in
set_option maxRecDepth 100000 in
theorem share_zero (total : Int) (p : Option Addr) (n c : Nat) (f : Nat → Int) (w : World) (hn : n ≤ 100) (h1 : 0 ≤ total) (h2 : total ≤ 1073741824) (hr : Reads w p n f) (hf : Good f n) (hz : sumF f n = 0) :
    Calls Try.prog 47 #[.int .i64 total, .slice p n c] w (Shared total f n w) := by
  have K := check_any total p n c f w hn h1 h2 hr
  have hmk := make_ints n (by omega)
  have B1 : Below w.heap.size w (w.alloc (.cells (ints n fun _ => 0) 3)) := (Below.refl _ _).alloc (Nat.le_refl _) _
  have SM := sum_any p n c f (w.alloc (.cells (ints n fun _ => 0) 3)) (by omega) hf (hr.below B1)
  rw [hz] at SM
  have HF := hide hf
  have HZ := hide hz
  have HB := hide B1
  clear hr hf hz B1
  go_enter Try.func47, Try.ntmps47
  go_wp2_with fail
  refine K.mono ?_
  rintro e w' ⟨he, rfl⟩
  obtain rfl : e = .returned (.int .i64 0) := by
    rcases he with he | he
    · exact he.2
    · exact absurd HF.out he.1
  clear K he
  go_wp2_with fail
  refine SM.mono ?_
  rintro e w' ⟨rfl, rfl⟩
  clear SM
  go_wp2
  go_ret2
  exact ⟨fun _ => 0, rfl, HB.out, IRow.new w n _, Or.inl ⟨HZ.out, fun _ _ => rfl⟩⟩

/-- The two rows that the first loop fills. -/
def Halfway (total S : Int) (f : Nat → Int) (n : Nat) (w : World) (k : Nat) (wr : World) : Prop :=
  Below w.heap.size w wr ∧ IRow wr w.heap.size n (fun j => if j < k then quoF total S f j else 0) ∧ IRow wr (w.heap.size + 1) n (fun j => if j < k then remF total S f j else 0)
theorem upto_step (q : Nat → Int) (k : Nat) : (fun j => if j = k then q k else if j < k then q j else 0) = fun j => if j < k + 1 then q j else 0 := by
  funext j
  by_cases e : j = k
  · subst e; rw [if_pos rfl, if_pos (by omega)]
  · rw [if_neg e]
    by_cases h : j < k
    · rw [if_pos h, if_pos (by omega)]
    · rw [if_neg h, if_neg (by omega)]
theorem Halfway.step {total S : Int} {f : Nat → Int} {n : Nat} {w wr : World} {k : Nat} (h : Halfway total S f n w k wr) :
    Halfway total S f n w (k + 1) ((wr.setCell ⟨w.heap.size, k, none⟩ (.int .i64 (quoF total S f k))).setCell ⟨w.heap.size + 1, k, none⟩ (.int .i64 (remF total S f k))) := by
  obtain ⟨h1, h2, h3⟩ := h
  have a1 := h2.set_ k (quoF total S f k)
  rw [upto_step] at a1
  have a2 := (h3.far (p := ⟨w.heap.size, k, none⟩) (by simp) (.int .i64 (quoF total S f k))).set_ k (remF total S f k)
  rw [upto_step] at a2
  exact ⟨(h1.setCell (Nat.le_refl _) _).setCell (by simp) _, a1.far (by simp) _, a2⟩
theorem mul_bounds {total x : Int} (h1 : 0 ≤ total) (h2 : total ≤ 1073741824) (h3 : 0 ≤ x) (h4 : x ≤ 2147483648) : 0 ≤ total * x ∧ total * x ≤ 2305843009213693952 := by
  refine ⟨Int.mul_nonneg h1 h3, ?_⟩
  have a : total * x ≤ 1073741824 * x := Int.mul_le_mul_of_nonneg_right h2 h3
  omega

/-- What the second loop has done behind k rounds. -/
def Second (total S : Int) (f : Nat → Int) (n ob : Nat) (h g : Nat → Nat) (w : World) (k : Nat) (wr : World) : Prop :=
  Below w.heap.size w wr ∧ IRow wr w.heap.size n (fun j => quoF total S f j + if g j < k then 1 else 0) ∧ ∀ i, i < n → wr.cell? ⟨ob, i, none⟩ = some (.int .i64 (h i : Nat))
theorem Second.step {total S : Int} {f : Nat → Int} {n ob : Nat} {h g : Nat → Nat} {w wr : World} {k : Nat} (hs : Second total S f n ob h g w k wr) (hob : w.heap.size < ob) (h1 : ∀ i, g (h i) = i) (h2 : ∀ i, h (g i) = i) :
    Second total S f n ob h g w (k + 1) (wr.setCell ⟨w.heap.size, h k, none⟩ (.int .i64 (quoF total S f (h k) + 1))) := by
  obtain ⟨s1, s2, s3⟩ := hs
  refine ⟨s1.setCell (Nat.le_refl _) _, (s2.set_ (h k) (quoF total S f (h k) + 1)).congr fun i _ => ?_, fun i hi => (World.cell?_setCell_other _ _ _ _ (by intro e; simp only [Addr.mk.injEq] at e; omega)).trans (s3 i hi)⟩
  by_cases e : i = h k
  · subst e; rw [if_pos rfl, h1, if_pos (by omega)]
  · have : g i ≠ k := fun e' => e (by rw [← e', h2])
    rw [if_neg e]
    by_cases l : g i < k
    · rw [if_pos l, if_pos (by omega)]
    · rw [if_neg l, if_neg (by omega)]

set_option maxHeartbeats 8000000 in
set_option maxRecDepth 100000 in
theorem share_main (total : Int) (p : Option Addr) (n c : Nat) (f : Nat → Int) (w : World) (hn : n ≤ 100) (h1 : 0 ≤ total) (h2 : total ≤ 1073741824) (hr : Reads w p n f) (hf : Good f n) (hz : 0 < sumF f n) :
    Calls Try.prog 47 #[.int .i64 total, .slice p n c] w (Shared total f n w) := by
  have K := check_any total p n c f w hn h1 h2 hr
  have hmk := make_ints n (by omega)
  have B1 : Below w.heap.size w (w.alloc (.cells (ints n fun _ => 0) 3)) := (Below.refl _ _).alloc (Nat.le_refl _) _
  have SM := sum_any p n c f (w.alloc (.cells (ints n fun _ => 0) 3)) (by omega) hf (hr.below B1)
  obtain ⟨S, hS⟩ : ∃ S, S = sumF f n := ⟨_, rfl⟩
  have hp : 0 < n := by
    rcases Nat.eq_zero_or_pos n with rfl | h
    · simp [sumF] at hz
    · exact h
  have sb := (sumF_bound n hf).2
  rw [← hS] at SM sb hz
  have hS2 : S ≤ 214748364800 := by omega
  have hS3 : (S == 0) = false := by simp; omega
  obtain ⟨b, off, rfl, hc⟩ := hr hp
  have H0 : Hid (Halfway total S f n w 0 ((w.alloc (.cells (ints n fun _ => 0) 3)).alloc (.cells (ints n fun _ => 0) 3))) := by
    refine ⟨B1.alloc (by simp) _, ?_, ?_⟩
    · exact ((IRow.new w n _).alloc _).congr (fun i _ => by simp)
    · have := (IRow.new (w.alloc (.cells (ints n fun _ => 0) 3)) n (fun _ => 0)).congr (g := fun j => if j < 0 then remF total S f j else 0) (fun i _ => by simp)
      simpa using this
  have HF := hide hf
  have HC := hide hc
  have HS := hide hS
  clear hr hf hc hS sb B1
  go_enter Try.func47, Try.ntmps47
  go_wp2_with fail
  refine K.mono ?_
  rintro e w' ⟨he, rfl⟩
  obtain rfl : e = .returned (.int .i64 0) := by
    rcases he with he | he
    · exact he.2
    · exact absurd HF.out he.1
  clear K he
  go_wp2_with fail
  refine SM.mono ?_
  rintro e w' ⟨rfl, rfl⟩
  clear SM
  go_wp2
  clear hS3
  generalize (w.alloc (.cells (ints n fun _ => 0) 3)).alloc (.cells (ints n fun _ => 0) 3) = w1 at H0 ⊢
  go_loopg [33] (n + 1) (fun g1 vk wr => ∃ k : Nat, vk = .int .i64 k ∧ k ≤ n ∧ n - k < g1 ∧ Hid (Halfway total S f n w k wr))
  case atStart => exact ⟨0, by go_num, by omega, by omega, H0⟩
  case round =>
    clear H0
    obtain ⟨k, rfl, hk, hg, H1⟩ := hrel
    by_cases hlt : k < n
    · have hltz : (k : Int) < (n : Int) := by omega
      have ck := (H1.out.1.cell (p := ⟨b, off + k, none⟩) (lt_of_cell (HC.out k hlt))).trans (HC.out k hlt)
      have c1 := H1.out.2.1.cell hlt
      have f1 := H1.out.2.1.frozen k
      have c2 := H1.out.2.2.cell hlt
      have f2 := H1.out.2.2.frozen k
      have H2 := hide H1.out.step
      have fk := HF.out k hlt
      obtain ⟨m1, m2⟩ := mul_bounds h1 h2 fk.1 fk.2
      have ew : IntKind.i64.wrap (total * f k) = total * f k := wrap_in (by omega)
      have q1 : 0 ≤ total * f k / S := Int.ediv_nonneg m1 (by omega)
      have q2 : total * f k / S ≤ total * f k := Int.ediv_le_self _ m1
      have hne : ¬ S = 0 := by omega
      clear H1 fk
      unfold quoF remF at H2
      go_wp2
      go_roundg (n - k)
      case measure => omega
      case rel => exact ⟨k + 1, by go_num, by omega, by omega, H2⟩
    · have hltz : ¬ (k : Int) < (n : Int) := by omega
      obtain rfl : n = k := by omega
      have R1 : IRow wr (w.heap.size + 1) n (remF total S f) := H1.out.2.2.congr (fun i hi => by rw [if_pos hi])
      have P1 : IRow wr w.heap.size n (quoF total S f) := H1.out.2.1.congr (fun i hi => by rw [if_pos hi])
      have GR := hide (greatest_any (n - 1) n (remF total S f) (w.heap.size + 1) wr (by omega) (by omega) R1)
      have P1 := hide P1
      have B1 := hide H1.out.1
      clear H1 R1
      go_wp2_with fail
      refine GR.out.mono ?_
      rintro e w2 ⟨ob, h, rfl, ho1, ho2, hB, hR, hc⟩
      have hlt0 := P1.out.lt
      have hob : w.heap.size < ob := by have := B1.out.size; omega
      have P2 : IRow w2 w.heap.size n (quoF total S f) := P1.out.below hB hlt0
      have B2 := hide (B1.out.trans (hB.mono B1.out.size))
      have hq := fun i (hi : i < n) => quo_bound (total := total) (S := S) (f := f) h1 (HF.out i hi).1 (by rw [HS.out]; exact le_sum n (fun k hk => (HF.out k hk).1) i hi) hz
      have SQ := sum_any (some ⟨w.heap.size, 0, none⟩) n n (quoF total S f) w2 (by omega) (fun i hi => ⟨(hq i hi).1, by have := (hq i hi).2; omega⟩) P2.reads
      have lb := left_bound (total := total) HF.out (by rw [← HS.out]; exact hz)
      rw [← HS.out] at lb
      have HQ := hide hq
      have HR := hide hR
      have HO := hide hc
      have P2 := hide P2
      obtain ⟨Q, eQ⟩ : ∃ Q, Q = sumF (quoF total S f) n := ⟨_, rfl⟩
      have qb := sumF_bound (B := total) n hq
      rw [← eQ] at SQ lb qb
      obtain ⟨L, eL⟩ : ∃ L : Nat, (L : Int) = total - Q := ⟨(total - Q).toNat, by omega⟩
      have EQ := hide eQ
      have EL := hide eL
      have l1 : 0 ≤ total - Q := by omega
      have l2 : total - Q ≤ (n : Int) := by omega
      have l3 : L < n := by omega
      have l4 : (total - Q).toNat = L := by omega
      have qb1 := qb.1
      have qb2 : Q ≤ total := by omega
      clear GR P1 B1 hB hR hc hq eQ eL lb qb
      go_wp2_with fail
      refine SQ.mono ?_
      rintro e w3 ⟨rfl, rfl⟩
      clear SQ
      go_wp2
      have HN := hide (fun k (hk : k < n) => HR.out.lt hk)
      obtain ⟨g, g1, g2, g3, g4⟩ := HR.out
      have S0 : Hid (Second total S f n ob h g w 0 w2) := ⟨B2.out, P2.out.congr (fun i _ => by simp), HO.out⟩
      have G1 := hide g1
      have G2 := hide g2
      have G3 := hide g3
      have G4 := hide g4
      clear l4 HR P2 B2 HO g1 g2 g3 g4 hlt0
      go_loopg [63] (L + 1) (fun g9 vk wr => ∃ k : Nat, vk = .int .i64 k ∧ k ≤ L ∧ L - k < g9 ∧ Hid (Second total S f n ob h g w k wr))
      case atStart => exact ⟨0, by go_num, by omega, by omega, S0⟩
      case round =>
        clear S0
        obtain ⟨wo, rfl⟩ : ∃ wo : World, wo = wr := ⟨_, rfl⟩
        obtain ⟨k, rfl, hk, hg, S1⟩ := hrel
        by_cases hlt : k < L
        · have hltz : (k : Int) < (L : Int) := by omega
          have ck := S1.out.2.2 k (by omega)
          have hkn := HN.out k (by omega)
          have hknz : ((h k : Nat) : Int) < (n : Int) := by omega
          have c1 := S1.out.2.1.cell hkn
          rw [G1.out, if_neg (Nat.lt_irrefl _), Int.add_zero] at c1
          have f1 := S1.out.2.1.frozen (h k)
          have S2 := hide (S1.out.step hob G1.out G2.out)
          have hq := HQ.out (h k) hkn
          obtain ⟨q1, q2⟩ := hq
          clear S1
          generalize quoF total S f (h k) = V at c1 S2 q1 q2
          generalize h k = hk' at ck hkn hknz c1 f1 S2
          go_wp2
          go_roundg (L - k)
          case measure => omega
          case rel => exact ⟨k + 1, by go_num, by omega, by omega, S2⟩
        · have hltz : ¬ (k : Int) < (L : Int) := by omega
          obtain rfl : L = k := by omega
          go_wp2
          go_ret2
          obtain ⟨s1, s2, _⟩ := S1.out
          refine ⟨_, rfl, s1, s2, Or.inr ⟨by rw [← HS.out]; exact hz, h, g, G1.out, G2.out, G3.out, fun i j hij hj => by rw [← HS.out]; exact G4.out i j hij hj, fun i _ => ?_⟩⟩
          unfold partF
          rw [← HS.out, ← EQ.out, ← EL.out]
          congr 1
          by_cases l : g i < L
          · rw [if_pos l, if_pos (by omega)]
          · rw [if_neg l, if_neg (by omega)]
end Go.Proofs.Ytjaapdkhjgolfaa
