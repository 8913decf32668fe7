/- The rules W1 to W3 change nothing in a sequence of simple classes. -/
import Derived.Test.YtdkmjhbkjhikfaaBdB
import Derived.Deep.QuietTactic
import Derived.BigQuiet
namespace Go.Proofs.Ytdkmjhbkjhikfaa
open Go.RowKit Go.Sort
set_option linter.unusedVariables false
set_option linter.unusedSimpArgs false

theorem marks_any (sb cb c gb d n : Nat) (vr vt : Value) (lev st en : Int) (g : Nat → Int) (w : World) (H : SeqAt w sb cb c gb d n vr vt lev st en g g) (hs : ∀ k, k < n → Sm (g k)) (hn : n ≤ 100000) :
    Calls Try.prog 68 #[.pointer (some ⟨sb, 0, none⟩)] w fun e w' => e = .returned (.tuple #[]) ∧ w = w' := by
  have b2 := H.blk.cell 2 rfl
  have b3 := H.blk.cell 3 rfl
  have b5 := H.blk.cell 5 rfl
  have HC := hide (fun k (hk : k < n) => H.cls.cell hk)
  have HG := hide (fun k (hk : k < n) => H.giv.cell hk)
  have HS := hide hs
  have K := fun x (hx : Sm x ∨ x = 13) W => hide (initiates_no x W hx)
  clear H hs
  go_enter Try.func68, Try.ntmps68
  go_wp2
  go_loop [2, 14] (fun v i => ∃ (k : Nat) (x : Int), k ≤ n ∧ i = .int .i64 k ∧ v = .int .i64 x) (fun _ i => n - (intOf i).toNat)
  case atStart => exact ⟨0, st, Nat.zero_le _, rfl, rfl⟩
  case round =>
    obtain ⟨k, x, hk, rfl, rfl⟩ := hrel
    by_cases hlt : k < n
    · have hltz : (k : Int) < (n : Int) := by omega
      have ck := HC.out k hlt
      have gk := HG.out k hlt
      have sk := HS.out k hlt
      rcases sk with e | e | e | e | e
      all_goals
        rw [e] at ck gk
        clear e
        go_wp2_with fail
        refine (K _ (Or.inl (by unfold Sm; omega)) _).out.mono ?_
        rintro e w' ⟨rfl, rfl⟩
        go_wp2
        go_round
        case rel => exact ⟨k + 1, _, by omega, by go_num, rfl⟩
        case measure => simp [intOf]; omega
    · have hltz : ¬ (k : Int) < (n : Int) := by omega
      obtain rfl : n = k := by omega
      go_wp2
      go_end0
      exact ⟨rfl, rfl⟩

theorem arabic_any (sb cb c gb d n : Nat) (vr vt : Value) (lev st en : Int) (g : Nat → Int) (w : World) (H : SeqAt w sb cb c gb d n vr vt lev st en g g) (hs : ∀ k, k < n → Sm (g k)) (hn : n ≤ 100000) (hst : st = 0 ∨ st = 1) :
    Calls Try.prog 69 #[.pointer (some ⟨sb, 0, none⟩)] w fun e w' => e = .returned (.tuple #[]) ∧ w = w' := by
  have b3 := H.blk.cell 3 rfl
  have b5 := H.blk.cell 5 rfl
  have HC := hide (fun k (hk : k < n) => H.cls.cell hk)
  have HS := hide hs
  have HST := hide hst
  clear H hs hst
  go_enter Try.func69, Try.ntmps69
  go_wp2
  go_loop [2, 14] (fun v i => ∃ (k : Nat) (x : Int), k ≤ n ∧ i = .int .i64 k ∧ v = .int .i64 x ∧ Hid (x = 0 ∨ x = 1)) (fun _ i => n - (intOf i).toNat)
  case atStart => exact ⟨0, st, Nat.zero_le _, rfl, rfl, HST⟩
  case round =>
    obtain ⟨k, x, hk, rfl, rfl, hx⟩ := hrel
    by_cases hlt : k < n
    · have hltz : (k : Int) < (n : Int) := by omega
      have ck := HC.out k hlt
      have sk := HS.out k hlt
      rcases hx.out with rfl | rfl
      all_goals
        clear hx
        rcases sk with e | e | e | e | e
        all_goals
          rw [e] at ck
          clear e
          go_wp2
          go_round
          case rel => exact ⟨k + 1, _, by omega, by go_num, rfl, by first | exact hide (Or.inl rfl) | exact hide (Or.inr rfl)⟩
          case measure => simp [intOf]; omega
    · have hltz : ¬ (k : Int) < (n : Int) := by omega
      obtain rfl : n = k := by omega
      go_wp2
      go_end0
      exact ⟨rfl, rfl⟩
end Go.Proofs.Ytdkmjhbkjhikfaa
