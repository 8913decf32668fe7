/- What fill, listEnd, before, after and the rules N1 and N2 do in a sequence of simple classes behind the weak rules. -/
import Derived.Test.YtdkmjhbkjhikfaaBdX
namespace Go.Proofs.Ytdkmjhbkjhikfaa
open Go.RowKit Go.Sort
set_option linter.unusedVariables false
set_option linter.unusedSimpArgs false

theorem St.fill {cb c n a k : Nat} {v : Int} {w wr : World} {f : Nat → Int} (h : St cb c n w wr (fun j => if a ≤ j ∧ j < k then v else f j)) (hk : k < n) (ha : a ≤ k) :
    St cb c n w (wr.setCell ⟨cb, k, none⟩ (.int .i64 v)) (fun j => if a ≤ j ∧ j < k + 1 then v else f j) := by
  have := h.set_ hk v
  refine ⟨this.but, this.row.congr fun j _ => ?_⟩
  by_cases e : j = k
  · subst e; rw [if_pos rfl, if_pos ⟨ha, by omega⟩]
  · rw [if_neg e]
    by_cases q : a ≤ j ∧ j < k
    · rw [if_pos q, if_pos ⟨q.1, by omega⟩]
    · rw [if_neg q, if_neg (by omega)]

set_option maxHeartbeats 4000000 in
theorem fill_any (sb cb c gb d n : Nat) (vr vt : Value) (lev st en v : Int) (g f : Nat → Int) (a b : Nat) (w : World) (H : SeqAt w sb cb c gb d n vr vt lev st en g f) (hn : n ≤ 100000) (hab : a ≤ b) (hb : b ≤ n) :
    Calls Try.prog 80 #[.pointer (some ⟨sb, 0, none⟩), .int .i64 (a : Int), .int .i64 (b : Int), .int .i64 v] w fun e w' => e = .returned (.tuple #[]) ∧ St cb c n w w' (fun j => if a ≤ j ∧ j < b then v else f j) := by
  have S0 : Hid (St cb c n w w (fun j => if a ≤ j ∧ j < a then v else f j)) := ⟨But.refl _ _, H.cls.congr fun j _ => by rw [if_neg (by omega)]⟩
  have HB := hide H.blk
  have NE := H.ne1
  clear H
  go_enter Try.func80, Try.ntmps80
  go_wp2
  go_loopg [8] (n + 1) (fun gh vk wr => ∃ (k : Nat), vk = .int .i64 (k : Int) ∧ a ≤ k ∧ k ≤ b ∧ n - k < gh ∧ Hid (St cb c n w wr (fun j => if a ≤ j ∧ j < k then v else f j)))
  case atStart => exact ⟨a, by go_num, Nat.le_refl _, hab, by omega, S0⟩
  case round =>
    clear S0
    obtain ⟨wo, rfl⟩ : ∃ wo : World, wo = wr := ⟨_, rfl⟩
    obtain ⟨k, rfl, hak, hkb, hg, S⟩ := hrel
    have b3 := (S.out.but.blk HB.out NE).cell 3 rfl
    by_cases hlt : k < b
    · have hltz : (k : Int) < (b : Int) := by omega
      have hltn : (k : Int) < (n : Int) := by omega
      have ck := S.out.row.cell (i := k) (by omega)
      have fz := S.out.row.frozen k
      have NX := hide (S.out.fill (by omega) hak)
      clear S
      go_wp2
      go_roundg (n - k)
      case measure => omega
      case rel => exact ⟨k + 1, by go_num, by omega, by omega, by omega, NX⟩
    · have hltz : ¬ (k : Int) < (b : Int) := by omega
      obtain rfl : b = k := by omega
      go_wp2
      go_end0
      exact ⟨rfl, S.out⟩

set_option maxHeartbeats 4000000 in
theorem listEnd_any (sb cb c gb d n : Nat) (vr vt : Value) (lev st en : Int) (g f : Nat → Int) (a : Nat) (w : World) (H : SeqAt w sb cb c gb d n vr vt lev st en g f) (hs : ∀ j, j < n → Sn (f j)) (hn : n ≤ 100000) (ha : a ≤ n) :
    Calls Try.prog 76 #[.pointer (some ⟨sb, 0, none⟩), .int .i64 (a : Int), .func (.func 77) #[] #[]] w fun e w' =>
      (∃ b : Nat, e = .returned (.int .i64 (b : Int)) ∧ a ≤ b ∧ b ≤ n ∧ (∀ j, a ≤ j → j < b → f j = 12 ∨ f j = 13) ∧ (b < n → f b = 0 ∨ f b = 1 ∨ f b = 3)) ∧ w = w' := by
  have b3 := H.blk.cell 3 rfl
  have HC := hide (fun k (hk : k < n) => H.cls.cell hk)
  have HS := hide hs
  have K1 := fun x (hx : x = 12 ∨ x = 13) W => hide (neutral_yes x W hx)
  have K2 := fun x (hx : x = 0 ∨ x = 1 ∨ x = 3) W => hide (neutral_no x W hx)
  clear H hs
  go_enter Try.func76, Try.ntmps76
  go_wp2
  go_loop [7] (fun i => ∃ (k : Nat), a ≤ k ∧ k ≤ n ∧ i = .int .i64 k ∧ Hid (∀ j, a ≤ j → j < k → f j = 12 ∨ f j = 13)) (fun i => n - (intOf i).toNat)
  case atStart => exact ⟨a, Nat.le_refl _, ha, rfl, fun j h1 h2 => by omega⟩
  case round =>
    obtain ⟨k, hak, hk, rfl, HN⟩ := hrel
    by_cases hlt : k < n
    · have hltz : (k : Int) < (n : Int) := by omega
      have ck := HC.out k hlt
      have sk := HS.out k hlt
      obtain ⟨x, ex⟩ : ∃ x, x = f k := ⟨_, rfl⟩
      rw [← ex] at ck sk
      by_cases hx : x = 12 ∨ x = 13
      · have HN' : Hid (∀ j, a ≤ j → j < k + 1 → f j = 12 ∨ f j = 13) := fun j h1 h2 => by
          by_cases e : j = k
          · subst e; rw [← ex]; exact hx
          · exact HN.out j h1 (by omega)
        have K := hide (K1 x hx w)
        clear sk ex hx HN
        go_wp2_with fail
        refine K.out.out.mono ?_
        rintro e w' ⟨rfl, rfl⟩
        go_wp2
        go_round
        case rel => exact ⟨k + 1, by omega, by omega, by go_num, HN'⟩
        case measure => simp [intOf]; omega
      · have hx' : x = 0 ∨ x = 1 ∨ x = 3 := by unfold Sn at sk; omega
        have K := hide (K2 x hx' w)
        have EX := hide hx'
        have EE := hide ex
        clear sk ex hx hx'
        go_wp2_with fail
        refine K.out.out.mono ?_
        rintro e w' ⟨rfl, rfl⟩
        go_wp2
        go_ret
        exact ⟨⟨k, rfl, hak, hk, HN.out, fun _ => EE.out ▸ EX.out⟩, rfl⟩
    · have hltz : ¬ (k : Int) < (n : Int) := by omega
      obtain rfl : n = k := by omega
      go_wp2
      go_ret
      exact ⟨⟨n, rfl, hak, hk, HN.out, fun h => by omega⟩, rfl⟩

set_option maxHeartbeats 4000000 in
theorem before_any (sb cb c gb d n : Nat) (vr vt : Value) (lev st en : Int) (g f : Nat → Int) (a : Nat) (w : World) (H : SeqAt w sb cb c gb d n vr vt lev st en g f) (hs : ∀ j, j < n → Sn (f j)) (hn : n ≤ 100000) (ha : a ≤ n) (hst : st = 0 ∨ st = 1) :
    Calls Try.prog 78 #[.pointer (some ⟨sb, 0, none⟩), .int .i64 (a : Int)] w fun e w' =>
      (∃ v : Int, e = .returned (.int .i64 v) ∧ (v = 0 ∨ v = 1) ∧ ((∀ j, j < n → f j ≠ 1 ∧ f j ≠ 3) ∧ st = 0 → v = 0)) ∧ w = w' := by
  have b3 := H.blk.cell 3 rfl
  have b5 := H.blk.cell 5 rfl
  have HC := hide (fun k (hk : k < n) => H.cls.cell hk)
  have HS := hide hs
  have HST := hide hst
  have K1 := fun x (hx : Sn x) W => hide (strength_any x W hx)
  clear H hs hst
  go_enter Try.func78, Try.ntmps78
  go_wp2
  go_loop [5] (fun i => ∃ (k : Nat), k ≤ a ∧ ((k = 0 ∧ i = .int .i64 (-1)) ∨ (∃ m : Nat, k = m + 1 ∧ i = .int .i64 m))) (fun i => (intOf i + 1).toNat)
  case atStart =>
    refine ⟨a, Nat.le_refl _, ?_⟩
    cases a with
    | zero => exact Or.inl ⟨rfl, by go_num⟩
    | succ m => exact Or.inr ⟨m, rfl, by go_num⟩
  case round =>
    obtain ⟨k, hk, ⟨rfl, rfl⟩ | ⟨m, rfl, rfl⟩⟩ := hrel
    · go_wp2
      go_ret
      first | exact ⟨⟨st, rfl, HST.out, fun h => h.2⟩, rfl⟩ | exact ⟨⟨st, rfl, HST.out, fun _ h => h⟩, rfl⟩
    · have hltz : (m : Int) < (n : Int) := by omega
      have h0 : (0 : Int) ≤ (m : Int) := by omega
      have ck := HC.out m (by omega)
      have sk := HS.out m (by omega)
      obtain ⟨x, ex⟩ : ∃ x, x = f m := ⟨_, rfl⟩
      rw [← ex] at ck sk
      have K := hide (K1 x sk w)
      have SK := hide sk
      have EX := hide ex
      by_cases hb : strB x = true
      · clear sk ex
        go_wp2_with fail
        refine K.out.out.mono ?_
        rintro e w' ⟨rfl, rfl⟩
        go_wp2
        go_ret
        refine ⟨⟨_, rfl, ?_, fun h => ?_⟩, rfl⟩
        · unfold strI; split <;> simp
        · have h1 := h.1 m (by omega)
          rw [← EX.out] at h1
          unfold strI
          rw [if_neg (by omega)]
      · have hb' : strB x = false := by simpa using hb
        clear sk ex hb
        go_wp2_with fail
        refine K.out.out.mono ?_
        rintro e w' ⟨rfl, rfl⟩
        go_wp2
        go_round
        case rel =>
          refine ⟨m, by omega, ?_⟩
          cases m with
          | zero => exact Or.inl ⟨rfl, by go_num⟩
          | succ m => exact Or.inr ⟨m, rfl, by go_num⟩
        case measure => simp [intOf]

theorem after_any (sb cb c gb d n : Nat) (vr vt : Value) (lev st en : Int) (g f : Nat → Int) (a : Nat) (w : World) (H : SeqAt w sb cb c gb d n vr vt lev st en g f) (hs : ∀ j, j < n → Sn (f j)) (hn : n ≤ 100000) (ha : a ≤ n) :
    Calls Try.prog 79 #[.pointer (some ⟨sb, 0, none⟩), .int .i64 (a : Int)] w fun e w' => (∃ v : Int, e = .returned (.int .i64 v)) ∧ w = w' := by
  have b3 := H.blk.cell 3 rfl
  have b6 := H.blk.cell 6 rfl
  by_cases hlt : a < n
  · have ck := H.cls.cell hlt
    have hltz : (a : Int) < (n : Int) := by omega
    have hne : ¬ (a : Int) = (n : Int) := by omega
    have hne2 : ((a : Int) == (n : Int)) = false := by simp; omega
    have K := hide (strength_any (f a) w (hs a hlt))
    clear H hs
    go_enter Try.func79, Try.ntmps79
    go_wp2_with fail
    refine K.out.mono ?_
    rintro e w' ⟨rfl, rfl⟩
    go_wp2
    go_ret
    exact ⟨⟨_, rfl⟩, rfl⟩
  · obtain rfl : a = n := by omega
    clear H hs
    go_enter Try.func79, Try.ntmps79
    go_wp2
    go_ret
    exact ⟨⟨_, rfl⟩, rfl⟩
end Go.Proofs.Ytdkmjhbkjhikfaa
