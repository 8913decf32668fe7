/- Order returns nothing where a level is out of range: the package's and the references'. -/
import Derived.Test.YtdkmjhbkjhikfaaBdF
namespace Go.Proofs.Ytdkmjhbkjhikfaa
open Go.RowKit Go.Sort
set_option linter.unusedVariables false
set_option linter.unusedSimpArgs false

set_option maxHeartbeats 2000000 in
theorem Order_bad (n c : Nat) (p : Option Addr) (f : Nat → Int) (w : World) (hl : Reads w p n f) (hn : n ≤ 2000) (hf : ¬ InR f n) :
    Calls Try.prog 10 #[.slice p n c] w fun e w' => e = .returned (.slice none 0 0) ∧ Grew w w' := by
  have hmk := make_ints n (by omega) w
  have S0 : Hid (OF w.heap.size n f w 0 0 (w.alloc (.cells (ints n fun _ => 0) 3))) := ⟨(Grew.refl w).alloc _, (IRow.new w n _).congr fun j _ => (if_neg (by omega)).symm, fun j h => by omega, by omega, by omega⟩
  have HL := hide hl
  have HF := hide hf
  have hnz : ¬ (2000 : Int) < (n : Int) := by omega
  clear hl hf
  go_enter Try.func10, Try.ntmps10
  go_wp2
  clear hmk
  generalize w.alloc (.cells (ints n fun _ => 0) 3) = w1 at *
  go_loopg [4, 16] (n + 1) (fun gh v4 vk wr => ∃ (k : Nat) (hi : Int), vk = .int .i64 (k : Int) ∧ v4 = .int .i64 hi ∧ k ≤ n ∧ n - k < gh ∧ Hid (OF w.heap.size n f w k hi wr))
  case atStart => exact ⟨0, 0, by go_num, by go_num, by omega, by omega, S0⟩
  case round =>
    clear S0
    obtain ⟨wo, rfl⟩ : ∃ wo : World, wo = wr := ⟨_, rfl⟩
    obtain ⟨k, hi, rfl, rfl, hk, hg, S⟩ := hrel
    by_cases hlt : k < n
    · have hltz : (k : Int) < (n : Int) := by omega
      obtain ⟨b, off, rfl, hc⟩ := HL.out (by omega)
      have ck : wo.cell? ⟨b, off + k, none⟩ = some (.int .i64 (f k)) := (S.out.1.1.cell (p := ⟨b, off + k, none⟩) (lt_of_cell (hc k hlt))).trans (hc k hlt)
      have oc := S.out.2.1.cell hlt
      have of := S.out.2.1.frozen k
      by_cases f1 : f k < 0
      · have G := hide S.out.1
        clear S hc
        go_wp2
        go_ret
        exact ⟨rfl, G.out⟩
      · by_cases f2 : (127 : Int) < f k
        · have G := hide S.out.1
          clear S hc
          go_wp2
          go_ret
          exact ⟨rfl, G.out⟩
        · have NX : Hid (∀ m : Int, (m = max hi (f k)) → OF w.heap.size n f w (k + 1) m (wo.setCell ⟨w.heap.size, k, none⟩ (.int .i64 (k : Int)))) := fun m hm => by
            obtain ⟨s1, s2, s3, s4, s5⟩ := S.out
            refine ⟨s1.setCell (Nat.le_refl _) _, s2.upto_step, fun j hj => ?_, by omega, by omega⟩
            by_cases e : j = k
            · subst e; omega
            · have := s3 j (by omega); omega
          clear S hc
          go_wp2
          all_goals
            go_roundg (n - k)
            case measure => omega
            case rel => exact ⟨k + 1, _, by go_num, rfl, by omega, by omega, hide (NX.out _ (by omega))⟩
    · have hltz : ¬ (k : Int) < (n : Int) := by omega
      obtain rfl : n = k := by omega
      exact absurd (fun j hj => by have := S.out.2.2.1 j hj; have := S.out.2.2.2.2; omega) HF.out

set_option maxHeartbeats 2000000 in
theorem refOrder_bad (n c : Nat) (p : Option Addr) (f : Nat → Int) (w : World) (hl : Reads w p n f) (hn : n ≤ 2000) (hf : ¬ InR f n) :
    Calls Try.prog 16 #[.slice p n c] w fun e w' => e = .returned (.slice none 0 0) ∧ Grew w w' := by
  have hmk := make_ints n (by omega) w
  have S0 : Hid (QF w.heap.size n f w 0 (w.alloc (.cells (ints n fun _ => 0) 3)) ∧ ∀ j, j < 0 → 0 ≤ f j ∧ f j ≤ 127) := ⟨⟨(Grew.refl w).alloc _, (IRow.new w n _).congr fun j _ => (if_neg (by omega)).symm⟩, fun j h => by omega⟩
  have HL := hide hl
  have HF := hide hf
  have hnz : ¬ (2000 : Int) < (n : Int) := by omega
  clear hl hf
  go_enter Try.func16, Try.ntmps16
  go_wp2
  clear hmk
  generalize w.alloc (.cells (ints n fun _ => 0) 3) = w1 at *
  go_loopg [4] (n + 1) (fun gh vk wr => ∃ (k : Nat), vk = .int .i64 (k : Int) ∧ k ≤ n ∧ n - k < gh ∧ Hid (QF w.heap.size n f w k wr ∧ ∀ j, j < k → 0 ≤ f j ∧ f j ≤ 127))
  case atStart => exact ⟨0, by go_num, by omega, by omega, S0⟩
  case round =>
    clear S0
    obtain ⟨wo, rfl⟩ : ∃ wo : World, wo = wr := ⟨_, rfl⟩
    obtain ⟨k, rfl, hk, hg, S⟩ := hrel
    by_cases hlt : k < n
    · have hltz : (k : Int) < (n : Int) := by omega
      obtain ⟨b, off, rfl, hc⟩ := HL.out (by omega)
      have ck : wo.cell? ⟨b, off + k, none⟩ = some (.int .i64 (f k)) := (S.out.1.1.1.cell (p := ⟨b, off + k, none⟩) (lt_of_cell (hc k hlt))).trans (hc k hlt)
      have oc := S.out.1.2.cell hlt
      have of := S.out.1.2.frozen k
      by_cases f1 : f k < 0
      · have G := hide S.out.1.1
        clear S hc
        go_wp2
        go_ret
        exact ⟨rfl, G.out⟩
      · by_cases f2 : (127 : Int) < f k
        · have G := hide S.out.1.1
          clear S hc
          go_wp2
          go_ret
          exact ⟨rfl, G.out⟩
        · have NX : Hid (QF w.heap.size n f w (k + 1) (wo.setCell ⟨w.heap.size, k, none⟩ (.int .i64 (k : Int))) ∧ ∀ j, j < k + 1 → 0 ≤ f j ∧ f j ≤ 127) := ⟨⟨S.out.1.1.setCell (Nat.le_refl _) _, S.out.1.2.upto_step⟩, fun j hj => by
            by_cases e : j = k
            · subst e; omega
            · exact S.out.2 j (by omega)⟩
          clear S hc
          go_wp2
          go_roundg (n - k)
          case measure => omega
          case rel => exact ⟨k + 1, by go_num, by omega, by omega, NX⟩
    · have hltz : ¬ (k : Int) < (n : Int) := by omega
      obtain rfl : n = k := by omega
      exact absurd S.out.2 HF.out
end Go.Proofs.Ytdkmjhbkjhikfaa
