/- What the library's block swap and rotation make of a row of cells; the row is memory of the call's own. -/
import Derived.Test.YtjaapdkhjgolfaaFxIns
import Derived.Test.YtjaapdkhjgolfaaFxMerge
import Derived.Deep.LoopGhost
namespace Go.Proofs.Ytjaapdkhjgolfaa
open Go.Shelf Go.RowKit Go.Lib Go.Sort Go.Proofs
variable {α : Type} [Inhabited α]

theorem hide' {p : Prop} (h : p) : Hid p := h

set_option maxHeartbeats 4000000 in
set_option maxRecDepth 100000 in
theorem swapRange_any (enc : α → Value) (cap blk off a b n : Nat) (F : Value) (d0 d : Array α) (w0 w : World) (R : Row1 enc w0 blk off d0) (hs : d0.size = d.size) (S : SW enc w0 blk off d w)
    (h1 : a + n ≤ b) (h2 : b + n ≤ d.size) (hsz : d.size < 4611686018427387904) :
    Calls Try.prog 67 #[.slice (some ⟨blk, off, none⟩) d.size cap, .int .i64 a, .int .i64 b, .int .i64 n, F] w fun e w' => e = .returned (.tuple #[]) ∧ SW enc w0 blk off (swr d a b n) w' := by
  have mixed := insLaid.mixed
  have hcl0 := R.hO.cells
  simp only [Value.cells] at hcl0
  have hst := R.hO.store Try.prog
  have S0 : Aside (SW enc w0 blk off (swr d a b 0) w) := by rw [swr_zero]; exact S
  clear S
  go_enter Try.func67, Try.ntmps67
  go_wp2
  go_loopg [10] (n + 1) (fun g1 vi wr => ∃ i : Nat, vi = .int .i64 i ∧ i ≤ n ∧ n + 1 - i ≤ g1 ∧ Aside (SW enc w0 blk off (swr d a b i) wr))
  case atStart => exact ⟨0, by go_num, by omega, by omega, S0⟩
  case round =>
    clear S0
    obtain ⟨i, rfl, hi, hg, S1⟩ := hrel
    by_cases hlt : i < n
    · have hltz : (i : Int) < (n : Int) := by omega
      go_wp2_with fail
      obtain ⟨iN, hiN⟩ : ∃ q, q = a + i := ⟨_, rfl⟩
      obtain ⟨jN, hjN⟩ : ∃ q, q = b + i := ⟨_, rfl⟩
      have ea : ((a : Int) + (i : Int)).toNat = iN := by omega
      have pa : (0 : Int) ≤ (a : Int) + (i : Int) := by omega
      have ba : (a : Int) + (i : Int) < (d.size : Int) := by omega
      have ra : IntKind.i64.wrap ((a : Int) + (i : Int)) = (a : Int) + (i : Int) := by rw [IntKind.wrap_i64]; omega
      have ec : ((b : Int) + (i : Int)).toNat = jN := by omega
      have pc : (0 : Int) ≤ (b : Int) + (i : Int) := by omega
      have bc : (b : Int) + (i : Int) < (d.size : Int) := by omega
      have rc : IntKind.i64.wrap ((b : Int) + (i : Int)) = (b : Int) + (i : Int) := by rw [IntKind.wrap_i64]; omega
      have hsj : (swr d a b i).size = d.size := size_swr _ _ _ _
      obtain ⟨x, hx⟩ : ∃ x, x = (swr d a b i)[a + i]! := ⟨_, rfl⟩
      obtain ⟨y, hy⟩ : ∃ x, x = (swr d a b i)[b + i]! := ⟨_, rfl⟩
      have S3 : Aside (SW enc w0 blk off (swr d a b (i + 1)) ((wr.setCell ⟨blk, off + iN, none⟩ (enc y)).setCell ⟨blk, off + jN, none⟩ (enc x)).drew) := by
        rw [← swr_succ d a b i (by omega) (by omega), hiN, hjN, hx, hy]; exact S1.out.swapped R (a + i) (b + i) (by omega) (by omega)
      have c1a := S1.out.c1 R (by omega) (a + i) (by omega)
      have c1b := S1.out.c1 R (by omega) (b + i) (by omega)
      have f1a := S1.out.f1 R (by omega) (a + i) (by omega)
      have f1b := S1.out.f1 R (by omega) (b + i) (by omega)
      obtain ⟨u, c1c⟩ := S1.out.c2 R (by omega) (a + i) (b + i) (by omega) (by omega) (enc y)
      rw [← hjN, ← hiN] at c1c
      rw [← hx, ← hiN] at c1a
      rw [← hy, ← hjN] at c1b
      rw [← hiN] at f1a
      rw [← hjN] at f1b
      clear S1 hx hy hiN hjN hsj
      go_wp2_with fail
      go_big_region_o
      clear c1a c1b c1c f1a f1b
      generalize ((wr.setCell ⟨blk, off + iN, none⟩ (enc y)).setCell ⟨blk, off + jN, none⟩ (enc x)).drew = w3 at S3 ⊢
      clear ea ec
      go_wp2
      go_roundg (n - i)
      case measure => omega
      case rel => exact ⟨i + 1, by go_num, by omega, by omega, S3⟩
    · have hltz : ¬ (i : Int) < (n : Int) := by omega
      go_wp2
      go_end0
      obtain rfl : i = n := by omega
      exact ⟨rfl, S1.out⟩

set_option maxHeartbeats 4000000 in
set_option maxRecDepth 100000 in
theorem rotate_any (enc : α → Value) (cap blk off a m b : Nat) (F : Value) (d0 d : Array α) (w0 w : World) (R : Row1 enc w0 blk off d0) (hs : d0.size = d.size) (S : SW enc w0 blk off d w)
    (h1 : a < m) (h2 : m < b) (hb : b ≤ d.size) (hsz : d.size < 4611686018427387904) :
    Calls Try.prog 66 #[.slice (some ⟨blk, off, none⟩) d.size cap, .int .i64 a, .int .i64 m, .int .i64 b, F] w fun e w' => e = .returned (.tuple #[]) ∧ SW enc w0 blk off (rot d a m b) w' := by
  have CS : Aside (∀ (x y n : Nat) (dk : Array α) (wk : World), dk.size = d.size → SW enc w0 blk off dk wk → x + n ≤ y → y + n ≤ d.size →
      Calls Try.prog 67 #[.slice (some ⟨blk, off, none⟩) d.size cap, .int .i64 x, .int .i64 y, .int .i64 n, F] wk fun e w' => e = .returned (.tuple #[]) ∧ SW enc w0 blk off (swr dk x y n) w') := fun x y n dk wk hk Sk g1 g2 => by
    have := swapRange_any enc cap blk off x y n F d0 dk w0 wk R (by omega) Sk g1 (by omega) (by omega)
    rwa [hk] at this
  have S0 : Aside (SW enc w0 blk off d w) := S
  clear S
  go_enter Try.func66, Try.ntmps66
  go_wp2
  go_loopg [10, 11] (b - a) (fun g1 vi vj wr => ∃ (i j : Nat) (dk : Array α), vi = .int .i64 i ∧ vj = .int .i64 j ∧ 0 < i ∧ 0 < j ∧ i + j ≤ g1 ∧ i + a ≤ m ∧ m + j ≤ b ∧ dk.size = d.size ∧ Aside (SW enc w0 blk off dk wr) ∧ Hid (rot dk (m - i) m (m + j) = rot d a m b))
  case atStart => exact ⟨m - a, b - m, d, by go_num, by go_num, by omega, by omega, by omega, by omega, by omega, rfl, S0, by rw [show m - (m - a) = a by omega, show m + (b - m) = b by omega]; exact rfl⟩
  case round =>
    clear S0
    obtain ⟨i, j, dk, rfl, rfl, hi, hj, hg, hia, hjb, hsk, S1, HR⟩ := hrel
    go_wp2_with fail
    · have hlt : j < i := by assumption
      have C := CS.out (m - i) m j dk wr hsk S1.out (by omega) (by omega)
      rw [show (((m - i : Nat)) : Int) = (m : Int) - (i : Int) by omega] at C
      refine C.mono ?_
      rintro e w1 ⟨rfl, S2⟩
      have S3 : Aside (SW enc w0 blk off (swr dk (m - i) m j) w1) := S2
      have H3 : Hid (rot (swr dk (m - i) m j) (m - (i - j)) m (m + j) = rot d a m b) := by rw [← HR.out]; exact rot_gt dk m i j (by omega) hlt (by omega)
      clear C S1 S2 HR
      have E : ((i : Int) - (j : Int)) = ((i - j : Nat) : Int) := by omega
      have E := hide' E
      go_wp2
      go_roundg (i - j + j)
      case measure => omega
      case rel => exact ⟨i - j, j, _, by first | rfl | rw [E.out], rfl, by omega, by omega, by omega, by omega, by omega, by rw [size_swr]; exact hsk, S3, H3⟩
    · have hne : ((i : Int) != (j : Int)) = true := by assumption
      have hge : ¬ j < i := by assumption
      have hij : i ≠ j := by rintro rfl; simp at hne
      have C := CS.out (m - i) (m + j - i) i dk wr hsk S1.out (by omega) (by omega)
      rw [show (((m - i : Nat)) : Int) = (m : Int) - (i : Int) by omega, show (((m + j - i : Nat)) : Int) = (m : Int) + (j : Int) - (i : Int) by omega] at C
      refine C.mono ?_
      rintro e w1 ⟨rfl, S2⟩
      have S3 : Aside (SW enc w0 blk off (swr dk (m - i) (m + j - i) i) w1) := S2
      have H3 : Hid (rot (swr dk (m - i) (m + j - i) i) (m - i) m (m + (j - i)) = rot d a m b) := by rw [← HR.out]; exact rot_lt dk m i j (by omega) (by omega) (by omega)
      clear C S1 S2 HR hne
      have E : ((j : Int) - (i : Int)) = ((j - i : Nat) : Int) := by omega
      have E := hide' E
      go_wp2
      go_roundg (i + (j - i))
      case measure => omega
      case rel => exact ⟨i, j - i, _, rfl, by first | rfl | rw [E.out], by omega, by omega, by omega, by omega, by omega, by rw [size_swr]; exact hsk, S3, H3⟩
    · have heq : ((i : Int) != (j : Int)) = false := by assumption
      obtain rfl : i = j := by have := eq_of_beq (show ((i : Int) == (j : Int)) = true by simpa using heq); omega
      have C := CS.out (m - i) m i dk wr hsk S1.out (by omega) (by omega)
      rw [show (((m - i : Nat)) : Int) = (m : Int) - (i : Int) by omega] at C
      refine C.mono ?_
      rintro e w1 ⟨rfl, S2⟩
      rw [rot_eq dk m i (by omega), HR.out] at S2
      have S3 : Aside (SW enc w0 blk off (rot d a m b) w1) := S2
      clear C S1 S2 HR heq
      go_wp2
      go_end0
      exact ⟨rfl, S3.out⟩
end Go.Proofs.Ytjaapdkhjgolfaa
