/- What levelRemoved, levelSeparators, outside, newStack, last, place, matches and embed do in a paragraph of simple classes. -/
import Derived.Test.YtdkmjhbkjhikfaaBdT
namespace Go.Proofs.Ytdkmjhbkjhikfaa
open Go.RowKit Go.Sort
set_option linter.unusedVariables false
set_option linter.unusedSimpArgs false

set_option maxHeartbeats 4000000 in
theorem levelRemoved_any (pb gb cb lb n : Nat) (vt : Value) (base : Int) (g c l : Nat → Int) (w : World) (H : ParAt w pb gb cb lb n vt base g c l) (hs : ∀ k, k < n → Sm (g k)) (hn : n ≤ 100000) :
    Calls Try.prog 25 #[.pointer (some ⟨pb, 0, none⟩)] w fun e w' => e = .returned (.tuple #[]) ∧ w = w' := by
  have b1 := H.blk.cell 1 rfl
  have b2 := H.blk.cell 2 rfl
  have b4 := H.blk.cell 4 rfl
  have HG := hide (fun k (hk : k < n) => H.giv.cell hk)
  have HL := hide (fun k (hk : k < n) => H.lev.cell hk)
  have HS := hide hs
  clear H hs
  go_enter Try.func25, Try.ntmps25
  go_wp2
  go_loop [2, 14] (fun v i => ∃ (k : Nat) (x : Int), k ≤ n ∧ i = .int .i64 k ∧ v = .int .i64 x) (fun _ i => n - (intOf i).toNat)
  case atStart => exact ⟨0, base, Nat.zero_le _, rfl, rfl⟩
  case round =>
    obtain ⟨k, x, hk, rfl, rfl⟩ := hrel
    by_cases hlt : k < n
    · have hltz : (k : Int) < (n : Int) := by omega
      have gk := HG.out k hlt
      have lk := HL.out k hlt
      have K := hide (removed_no (g k) w (HS.out k hlt))
      go_wp2_with fail
      refine K.out.mono ?_
      rintro e w' ⟨rfl, rfl⟩
      go_wp2
      go_round
      case rel => exact ⟨k + 1, _, by omega, by go_num, rfl⟩
      case measure => simp [intOf]; omega
    · have hltz : ¬ (k : Int) < (n : Int) := by omega
      obtain rfl : n = k := by omega
      go_wp2
      go_end0
      exact ⟨rfl, rfl⟩

/-- Where a blank hangs at the end, the level is the paragraph's. -/
def Tail (n : Nat) (base : Int) (g l f : Nat → Int) : Prop := ∀ j, j < n → f j = l j ∨ (g j = 12 ∧ f j = base)
theorem Tail.step {n k : Nat} {base : Int} {g l f : Nat → Int} (h : Tail n base g l f) (hk : g k = 12) : Tail n base g l (fun j => if j = k then base else f j) := fun j hj => by
  show (if j = k then base else f j) = _ ∨ (_ ∧ (if j = k then base else f j) = _)
  by_cases e : j = k
  · subst e; rw [if_pos rfl]; exact Or.inr ⟨hk, rfl⟩
  · rw [if_neg e]; exact h j hj

set_option maxHeartbeats 4000000 in
theorem levelSeparators_any (pb gb cb lb n : Nat) (vt : Value) (base : Int) (g c l : Nat → Int) (w : World) (H : ParAt w pb gb cb lb n vt base g c l) (hs : ∀ k, k < n → Sm (g k)) (hn : n ≤ 100000) :
    Calls Try.prog 26 #[.pointer (some ⟨pb, 0, none⟩)] w fun e w' => e = .returned (.tuple #[]) ∧ ∃ f, But lb w w' ∧ IRow w' lb n f ∧ Tail n base g l f := by
  have S0 : Hid (But lb w w ∧ IRow w lb n l ∧ Tail n base g l l) := ⟨But.refl _ _, H.lev, fun j _ => Or.inl rfl⟩
  have b2 := H.blk.cell 2 rfl
  have HP := hide H
  have HS := hide hs
  clear H hs
  go_enter Try.func26, Try.ntmps26
  go_wp2
  clear b2
  go_loopg [2, 3] (n + 1) (fun gh v i wr => ∃ (k : Nat) (q : Bool) (f : Nat → Int), k ≤ n ∧ v = .bool q ∧ ((k = 0 ∧ i = .int .i64 (-1)) ∨ (∃ m : Nat, k = m + 1 ∧ i = .int .i64 m)) ∧ k < gh ∧ Hid (But lb w wr ∧ IRow wr lb n f ∧ Tail n base g l f))
  case atStart =>
    refine ⟨n, true, l, Nat.le_refl _, rfl, ?_, by omega, S0⟩
    cases n with
    | zero => exact Or.inl ⟨rfl, by go_num⟩
    | succ m => exact Or.inr ⟨m, rfl, by go_num⟩
  case round =>
    clear S0
    obtain ⟨wo, rfl⟩ : ∃ wo : World, wo = wr := ⟨_, rfl⟩
    obtain ⟨k, q, f, hk, rfl, ⟨rfl, rfl⟩ | ⟨m, rfl, rfl⟩, hg, S⟩ := hrel
    · go_wp2
      go_end0
      exact ⟨rfl, f, S.out⟩
    · have hltz : (m : Int) < (n : Int) := by omega
      have h0 : (0 : Int) ≤ (m : Int) := by omega
      have P := hide (HP.out.but S.out.1 S.out.2.1)
      have b1 := P.out.blk.cell 1 rfl
      have b2 := P.out.blk.cell 2 rfl
      have b4 := P.out.blk.cell 4 rfl
      have gk := P.out.giv.cell (i := m) (by omega)
      have sk := HS.out m (by omega)
      obtain ⟨x, ex⟩ : ∃ x, x = g m := ⟨_, rfl⟩
      rw [← ex] at gk sk
      have K1 := hide (separates_no x wo sk)
      have K2 := hide (hangs_any x wo sk)
      have EX := hide ex
      have end_ : ∀ (m : Nat), (m = 0 ∧ Value.int IntKind.i64 ((m : Int) - 1) = .int .i64 (-1)) ∨ (∃ j : Nat, m = j + 1 ∧ Value.int IntKind.i64 ((m : Int) - 1) = .int .i64 j) := fun m => by
        cases m with
        | zero => exact Or.inl ⟨rfl, by go_num⟩
        | succ j => exact Or.inr ⟨j, rfl, by go_num⟩
      have EN := hide end_
      clear sk ex end_
      cases q with
      | false =>
        clear K2
        go_wp2_with fail
        refine K1.out.mono ?_
        rintro e w' ⟨rfl, rfl⟩
        go_wp2
        go_roundg (m + 1)
        case measure => omega
        case rel => exact ⟨m, false, f, by omega, rfl, EN.out m, by omega, S⟩
      | true =>
        go_wp2_with fail
        refine K1.out.mono ?_
        rintro e w' ⟨rfl, rfl⟩
        go_wp2_with fail
        refine K2.out.mono ?_
        rintro e w' ⟨rfl, rfl⟩
        by_cases h12 : x = 12
        · have d12 : decide (x = 12) = true := by simp [h12]
          have NX : Hid (∀ W, Grew wo W → But lb w (W.setCell ⟨lb, m, none⟩ (.int .i64 base)) ∧ IRow (W.setCell ⟨lb, m, none⟩ (.int .i64 base)) lb n (fun j => if j = m then base else f j) ∧ Tail n base g l (fun j => if j = m then base else f j)) := fun W G =>
            ⟨(S.out.1.trans (But.of_grew G)).setCell rfl _, (S.out.2.1.grew G).set_ m base, S.out.2.2.step (by rw [← EX.out]; exact h12)⟩
          have SL := hide S.out.2.1
          have gp := fun m' os => (upto_blk P.out.blk m' os).cell 4 rfl
          have gp1 := fun m' os => (upto_blk P.out.blk m' os).cell 1 rfl
          have hmn : Hid (m < n) := by show m < n; omega
          rw [d12]
          clear S P K1 K2 h12 d12
          go_wp2
          refine wp_region_stores 10 [fun W => W.setCell ⟨lb, m, none⟩ (.int .i64 base)] (by kernel_rfl) rfl (by kernel_rfl) (by kernel_rfl) (by kernel_rfl) ?_
          repeat (first | (refine lex_skip rfl (by rfl) ?_) | (refine lex_calm rfl (by rfl) (fun K hK => ?_); go_simp; first | (refine hK _ ?_; clear hK K)))
          refine lex_nil ?_
          refine stores_cons rfl ?_ ?_
          · intro w1 G1
            have c1 := (SL.out.grew G1).cell hmn.out
            have f1 := (SL.out.grew G1).frozen m
            go_simp
          refine stores_nil ?_
          intro w1 G1
          simp only [Act.put]
          have NX1 := hide (NX.out w1 G1)
          clear NX SL gp gp1
          go_wp2
          go_roundg (m + 1)
          case measure => omega
          case rel => exact ⟨m, true, _, by omega, rfl, EN.out m, by omega, NX1⟩
        · have d12 : decide (x = 12) = false := by simp [h12]
          rw [d12]
          clear K1 K2 P h12 d12
          go_wp2
          go_roundg (m + 1)
          case measure => omega
          case rel => exact ⟨m, false, f, by omega, rfl, EN.out m, by omega, S⟩

theorem outside_any (pb gb cb lb n : Nat) (vt : Value) (base lev : Int) (g c l : Nat → Int) (kp : Option Addr) (kc : Nat) (pl : Int) (w : World) (H : ParAt w pb gb cb lb n vt base g c l) (hb : base = 0 ∨ base = 1) (hl : lev = base) (hp : pl = -1 ∨ pl = n) :
    Calls Try.prog 46 #[.pointer (some ⟨pb, 0, none⟩), .int .i64 lev, .slice kp n kc, .int .i64 pl] w fun e w' => e = .returned (.int .i64 base) ∧ w = w' := by
  subst hl
  have b1 := H.blk.cell 1 rfl
  have KD0 := hide (direction_any 0 w)
  have KD1 := hide (direction_any 1 w)
  clear H
  have h0 : (0 : Int) ≤ (n : Int) := by omega
  rcases hb with rfl | rfl
  · rcases hp with rfl | rfl
    all_goals
      go_enter Try.func46, Try.ntmps46
      go_wp2_with fail
      refine KD0.out.mono ?_
      rintro e w' ⟨rfl, rfl⟩
      go_wp2
      go_ret
      exact ⟨rfl, rfl⟩
  · rcases hp with rfl | rfl
    all_goals
      go_enter Try.func46, Try.ntmps46
      go_wp2_with fail
      refine KD1.out.mono ?_
      rintro e w' ⟨rfl, rfl⟩
      go_wp2
      go_ret
      exact ⟨rfl, rfl⟩
end Go.Proofs.Ytdkmjhbkjhikfaa
