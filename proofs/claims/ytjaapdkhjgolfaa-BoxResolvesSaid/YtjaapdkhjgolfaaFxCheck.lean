/- What sumOf and checkShare of package fixed return; the list is at most 1048576 integers, each from 0 to 2^31 where the sum is asked. -/
import Derived.Test.YtjaapdkhjgolfaaFxGreat
namespace Go.Proofs.Ytjaapdkhjgolfaa
open Go.RowKit

/-- The slice at p reads as n integers. -/
def Reads (w : World) (p : Option Addr) (n : Nat) (f : Nat → Int) : Prop := 0 < n → ∃ b off, p = some ⟨b, off, none⟩ ∧ ∀ k, k < n → w.cell? ⟨b, off + k, none⟩ = some (.int .i64 (f k))
theorem IRow.reads {w : World} {b n : Nat} {f : Nat → Int} (h : IRow w b n f) : Reads w (some ⟨b, 0, none⟩) n f := fun _ => ⟨b, 0, rfl, fun k hk => by rw [Nat.zero_add]; exact h.cell hk⟩
theorem lt_of_cell {w : World} {b o : Nat} {v : Value} (h : w.cell? ⟨b, o, none⟩ = some v) : b < w.heap.size := by
  rcases Nat.lt_or_ge b w.heap.size with hl | hl
  · exact hl
  · simp [World.cell?, Array.getElem?_eq_none hl] at h
theorem Reads.below {w w' : World} {p : Option Addr} {n : Nat} {f : Nat → Int} (h : Reads w p n f) (hB : Below w.heap.size w w') : Reads w' p n f := fun hn => by
  obtain ⟨b, off, hp, hc⟩ := h hn
  exact ⟨b, off, hp, fun k hk => (hB.cell (p := ⟨b, off + k, none⟩) (lt_of_cell (hc k hk))).trans (hc k hk)⟩

/-- The sum of the first numbers. -/
def sumF (f : Nat → Int) : Nat → Int
  | 0 => 0
  | k + 1 => sumF f k + f k
theorem sumF_bound {f : Nat → Int} {B : Int} : ∀ (n : Nat), (∀ k, k < n → 0 ≤ f k ∧ f k ≤ B) → 0 ≤ sumF f n ∧ sumF f n ≤ n * B
  | 0, _ => by simp [sumF]
  | n + 1, h => by
    have ih := sumF_bound n (fun k hk => h k (by omega))
    have := h n (by omega)
    have e : ((n + 1 : Nat) : Int) * B = n * B + B := by rw [Int.natCast_succ, Int.add_mul, Int.one_mul]
    simp only [sumF]
    omega

set_option maxHeartbeats 1000000 in
theorem sum_any (p : Option Addr) (n c : Nat) (f : Nat → Int) (w : World) (hn : n ≤ 1048576) (hf : ∀ k, k < n → 0 ≤ f k ∧ f k ≤ 2147483648) (hr : Reads w p n f) :
    Calls Try.prog 53 #[.slice p n c] w fun e w' => e = .returned (.int .i64 (sumF f n)) ∧ w = w' := by
  rcases Nat.eq_zero_or_pos n with rfl | hp
  · clear hr hf
    go_enter Try.func53, Try.ntmps53
    go_wp2
    refine wp_loop_rounds 1 ?_
    rw [rounds_succ]
    go_wp2
    go_ret
    exact ⟨rfl, rfl⟩
  · obtain ⟨b, off, rfl, hc⟩ := hr hp
    have HC := hide hc
    have HF := hide hf
    have hb := fun k (hk : k ≤ n) => sumF_bound (B := 2147483648) k (fun j hj => HF.out j (by omega))
    have HB := hide hb
    clear hr hc hf hb
    go_enter Try.func53, Try.ntmps53
    go_wp2
    go_loop [3, 8] (fun s i => ∃ k : Nat, k ≤ n ∧ i = .int .i64 k ∧ s = .int .i64 (sumF f k)) (fun _ i => n - (intOf i).toNat)
    case atStart => exact ⟨0, Nat.zero_le _, rfl, rfl⟩
    case round =>
      obtain ⟨k, hk, rfl, rfl⟩ := hrel
      by_cases hlt : k < n
      · have hltz : (k : Int) < (n : Int) := by omega
        have ck := HC.out k hlt
        have fk := HF.out k hlt
        have bk := HB.out k hk
        have E : Hid (sumF f (k + 1) = sumF f k + f k) := rfl
        obtain ⟨fk1, fk2⟩ := fk
        obtain ⟨bk1, bk2⟩ := bk
        go_wp2
        go_round
        case rel => exact ⟨k + 1, by omega, by go_num, by rw [E.out]⟩
        case measure => simp [intOf]; omega
      · have hltz : ¬ (k : Int) < (n : Int) := by omega
        obtain rfl : n = k := by omega
        go_wp2
        go_ret
        exact ⟨rfl, rfl⟩

theorem check_long (total : Int) (p : Option Addr) (n c : Nat) (w : World) (hn : 100 < n) :
    Calls Try.prog 52 #[.int .i64 total, .slice p n c] w fun e w' => e = .returned (.int .i64 2) ∧ w = w' := by
  have hz : (100 : Int) < (n : Int) := by omega
  go_enter Try.func52, Try.ntmps52
  go_wp2
  go_ret
  exact ⟨rfl, rfl⟩
theorem check_total (total : Int) (p : Option Addr) (n c : Nat) (w : World) (hn : n ≤ 100) (ht : ¬ (0 ≤ total ∧ total ≤ 1073741824)) :
    Calls Try.prog 52 #[.int .i64 total, .slice p n c] w fun e w' => e = .returned (.int .i64 1) ∧ w = w' := by
  have hz : ¬ (100 : Int) < (n : Int) := by omega
  have C := within_no total 0 1073741824 w ht
  clear ht
  go_enter Try.func52, Try.ntmps52
  go_wp2_with fail
  refine C.mono ?_
  rintro e w' ⟨rfl, rfl⟩
  go_wp2
  go_ret
  exact ⟨rfl, rfl⟩
/-- All of the first n weights are in range. -/
def Good (f : Nat → Int) (n : Nat) : Prop := ∀ k, k < n → 0 ≤ f k ∧ f k ≤ 2147483648

set_option maxHeartbeats 1000000 in
theorem check_any (total : Int) (p : Option Addr) (n c : Nat) (f : Nat → Int) (w : World) (hn : n ≤ 100) (h1 : 0 ≤ total) (h2 : total ≤ 1073741824) (hr : Reads w p n f) :
    Calls Try.prog 52 #[.int .i64 total, .slice p n c] w fun e w' => (Good f n ∧ e = .returned (.int .i64 0) ∨ ¬ Good f n ∧ e = .returned (.int .i64 1)) ∧ w = w' := by
  have hz : ¬ (100 : Int) < (n : Int) := by omega
  have C := within_yes total 0 1073741824 w h1 h2
  rcases Nat.eq_zero_or_pos n with rfl | hp
  · clear hr
    go_enter Try.func52, Try.ntmps52
    go_wp2_with fail
    refine C.mono ?_
    rintro e w' ⟨rfl, rfl⟩
    go_wp2
    refine wp_loop_rounds 1 ?_
    rw [rounds_succ]
    go_wp2
    go_ret
    exact ⟨Or.inl ⟨fun k hk => absurd hk (Nat.not_lt_zero _), rfl⟩, rfl⟩
  · obtain ⟨b, off, rfl, hc⟩ := hr hp
    have HC := hide hc
    clear hr hc
    have POST : Hid (∀ (x : Ending) (w' : World), ((Good f n ∧ x = .returned (.int .i64 0) ∨ ¬ Good f n ∧ x = .returned (.int .i64 1)) ∧ w = w') → ((Good f n ∧ x = .returned (.int .i64 0) ∨ ¬ Good f n ∧ x = .returned (.int .i64 1)) ∧ w = w')) := fun _ _ h => h
    go_enter Try.func52, Try.ntmps52
    go_wp2_with fail
    refine C.mono ?_
    rintro e w' ⟨rfl, rfl⟩
    clear C
    go_wp2
    go_loop [15] (fun i => ∃ k : Nat, k ≤ n ∧ i = .int .i64 k ∧ Hid (Good f k)) (fun i => n - (intOf i).toNat)
    case atStart => exact ⟨0, Nat.zero_le _, rfl, fun k hk => absurd hk (Nat.not_lt_zero _)⟩
    case round =>
      obtain ⟨k, hk, rfl, HG⟩ := hrel
      by_cases hlt : k < n
      · have hltz : (k : Int) < (n : Int) := by omega
        have ck := HC.out k hlt
        by_cases hw : 0 ≤ f k ∧ f k ≤ 2147483648
        · have W := within_yes (f k) 0 2147483648 w hw.1 hw.2
          have HG' : Hid (Good f (k + 1)) := fun j hj => by
            rcases Nat.lt_or_ge j k with h | h
            · exact HG.out j h
            · obtain rfl : j = k := by omega
              exact hw
          clear hw HG
          go_wp2_with fail
          refine W.mono ?_
          rintro e w' ⟨rfl, rfl⟩
          clear W
          go_wp2
          go_round
          case rel => exact ⟨k + 1, by omega, by go_num, HG'⟩
          case measure => simp [intOf]; omega
        · have W := within_no (f k) 0 2147483648 w hw
          have NG : Hid (¬ Good f n) := fun h => hw (h k hlt)
          clear hw HG
          go_wp2_with fail
          refine W.mono ?_
          rintro e w' ⟨rfl, rfl⟩
          clear W
          go_wp2
          go_ret
          exact ⟨Or.inr ⟨NG.out, rfl⟩, rfl⟩
      · have hltz : ¬ (k : Int) < (n : Int) := by omega
        obtain rfl : n = k := by omega
        go_wp2
        go_ret
        exact ⟨Or.inl ⟨HG.out, rfl⟩, rfl⟩
end Go.Proofs.Ytjaapdkhjgolfaa
