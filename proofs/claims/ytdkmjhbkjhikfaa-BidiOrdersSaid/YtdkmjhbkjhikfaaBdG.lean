/- What Runs returns, of the package and of the references; and that Order returns nothing where a level is out of range. -/
import Derived.Test.YtdkmjhbkjhikfaaBdF
namespace Go.Proofs.Ytdkmjhbkjhikfaa
open Go.RowKit Go.Sort
set_option linter.unusedVariables false
set_option linter.unusedSimpArgs false

/-- The ends of the lists of equal levels among the first k places. -/
def runsL (f : Nat → Int) (n : Nat) : Nat → List Int
  | 0 => []
  | k + 1 => runsL f n k ++ if k + 1 = n ∨ f (k + 1) ≠ f k then [((k + 1 : Nat) : Int)] else []
def lits' (l : List Int) : List Value := l.map (Value.int .i64)
theorem runsL_yes {f : Nat → Int} {n k : Nat} (h : k + 1 = n ∨ f (k + 1) ≠ f k) : runsL f n (k + 1) = runsL f n k ++ [((k + 1 : Nat) : Int)] := by simp only [runsL, if_pos h]
theorem runsL_no {f : Nat → Int} {n k : Nat} (h : ¬ (k + 1 = n ∨ f (k + 1) ≠ f k)) : runsL f n (k + 1) = runsL f n k := by simp only [runsL, if_neg h, List.append_nil]
theorem runsL_len (f : Nat → Int) (n : Nat) : ∀ k, (runsL f n k).length ≤ k
  | 0 => Nat.le_refl _
  | k + 1 => by
    have := runsL_len f n k
    by_cases h : k + 1 = n ∨ f (k + 1) ≠ f k
    · rw [runsL_yes h, List.length_append]; simp; omega
    · rw [runsL_no h]; omega
def RunS (f : Nat → Int) (n : Nat) (w : World) (k : Nat) (v : Value) (wr : World) : Prop := Grew w wr ∧ wr.ownsRow w.heap.size 3 1 v (runsL f n k).length (lits' (runsL f n k))
theorem own_reads {w : World} {base : Nat} {v : Value} {l : List Int} (h : w.ownsRow base 3 1 v l.length (lits' l)) : ∃ p c, v = .slice p l.length c ∧ Reads w p l.length (fun k => l.getD k 0) := by
  rcases h.2 with ⟨rfl, h0⟩ | ⟨g, cap, cur, rfl, hb, hg, hc, hm, hs, ht⟩
  · exact ⟨none, 0, by rw [h0], fun h => by omega⟩
  · refine ⟨some ⟨g, 0, none⟩, cap, rfl, fun hp => ⟨g, 0, rfl, fun k hk => ?_⟩⟩
    rw [Nat.zero_add, cell_of_row w g k cur _ (0, 0) hg]
    have e : (lits' l)[k]? = some (.int .i64 (l.getD k 0)) := by
      unfold lits'
      rw [List.getElem?_map, List.getElem?_eq_getElem hk, List.getD_eq_getElem?_getD, List.getElem?_eq_getElem hk]; rfl
    rw [← ht, List.getElem?_take, if_pos (by omega)] at e
    simpa using e

set_option maxRecDepth 100000 in
set_option maxHeartbeats 4000000 in
theorem Runs_any (n c : Nat) (p : Option Addr) (f : Nat → Int) (w : World) (hl : Reads w p n f) (hn : n ≤ 2000) :
    Calls Try.prog 17 #[.slice p n c] w fun e w' => ∃ v, e = .returned v ∧ RunS f n w n v w' := by
  obtain ⟨i0, hi, hz0, hz1, hz2⟩ := info_parts info_int
  have S0 : Hid (RunS f n w 0 (.slice none 0 0) w) := ⟨Grew.refl _, World.ownsRow_nil _ _ _ _⟩
  have HL := hide hl
  clear hl
  go_enter Try.func17, Try.ntmps17
  go_wp2
  go_loopg [3, 7] (n + 1) (fun gh vv vk wr => ∃ (k : Nat) (v : Value), vk = .int .i64 (k : Int) ∧ v = vv ∧ k ≤ n ∧ n - k < gh ∧ Hid (RunS f n w k v wr))
  case atStart => exact ⟨0, _, by go_num, rfl, by omega, by omega, S0⟩
  case round =>
    clear S0
    obtain ⟨wo, rfl⟩ : ∃ wo : World, wo = wr := ⟨_, rfl⟩
    obtain ⟨k, v, rfl, rfl, hk, hg, S⟩ := hrel
    by_cases hlt : k < n
    · have hltz : (k : Int) < (n : Int) := by omega
      obtain ⟨b, off, rfl, hc⟩ := (HL.out.grew S.out.1) (by omega)
      have ck := hc k hlt
      have hlen := runsL_len f n k
      have hown := hide S.out.2
      have hsz : Hid (w.heap.size ≤ wo.heap.size) := S.out.1.size
      have G := hide S.out.1
      have YES : Hid (∀ q w1 v' (x : Int), x = (k : Int) + 1 → (k + 1 = n ∨ f (k + 1) ≠ f k) → w1.ownsRow w.heap.size 3 1 v' ((runsL f n k).length + 1) (lits' (runsL f n k) ++ [.int .i64 x]) → ((wo.drewN q).alloc (.cells #[.int .i64 x] 3)).grownBy w1 v.ownBlock → (wo.drewN q).drawn ≤ w1.drawn → RunS f n w (k + 1) v' w1) := fun q w1 v' x hx h h1 h2 h3 => by
        subst hx
        refine ⟨((G.out.drewN q).alloc _).appended h2 h3 (own_lt hown.out), ?_⟩
        have e : lits' (runsL f n k ++ [((k + 1 : Nat) : Int)]) = lits' (runsL f n k) ++ [.int .i64 ((k : Int) + 1)] := by
          unfold lits'; rw [List.map_append]; rfl
        rw [runsL_yes h, e, List.length_append]; exact h1
      have NO : Hid (∀ q, ¬ (k + 1 = n ∨ f (k + 1) ≠ f k) → RunS f n w (k + 1) v (wo.drewN q)) := fun q h => by
        refine ⟨G.out.drewN q, ?_⟩
        rw [runsL_no h]; exact hown.out
      clear S
      by_cases hkn : k + 1 = n
      · have e1 : ((k : Int) + 1 == (n : Int)) = true := by simp; omega
        have HKN := hide hkn
        clear NO hc hkn
        go_wp2
        go_quiet (fail)
        go_wp2_with (at_builtin; refine wpList_append_drawn2 _ rfl _ _ 22 rfl w.heap.size 3 i0 (.int .i64 0) 1 8 Try.underlying22 hi hz0 hz1 hz2 rfl (by decide) v _ _ rfl (World.ownsRow.alloc (w := wo.drewN nq) hown.out _) ⟨wo.heap.size, 0, none⟩ 1 1 [.int .i64 ((k : Int) + 1)] rfl (by decide) rfl ?c1 ?c2 ?c3 ?c4 ?c5 ?_)
        case c1 =>
          intro j u hj
          match j, hj with
          | 0, hj => simp at hj; subst hj; exact (Blk.new (W := wo.drewN nq) (b := wo.heap.size) (T := 3) (vs := [.int .i64 ((k : Int) + 1)]) rfl).cell 0 rfl
        case c2 => intro u hu; simp at hu; subst hu; rfl
        case c3 => unfold maxLen; omega
        case c4 => omega
        case c5 => have := hsz.out; simp; omega
        · intro v' w1 hown' hgrow hd _
          have NX := hide (YES.out nq w1 v' _ (by omega) (Or.inl HKN.out) hown' hgrow hd)
          clear hown' hgrow hown hd YES
          go_wp2
          go_roundg (n - k)
          case measure => omega
          case rel => exact ⟨k + 1, v', by go_num, rfl, by omega, by omega, NX⟩
      · have hk1 : k + 1 < n := by omega
        have hk1z : (k : Int) + 1 < (n : Int) := by omega
        have ck1 := hc (k + 1) hk1
        have ck1' : wo.cell? ⟨b, off + (k + 1), none⟩ = some (.int .i64 (f (k + 1))) := ck1
        have e1 : ((k : Int) + 1 == (n : Int)) = false := by simp; omega
        have e2 : ¬ (k : Int) + 1 = (n : Int) := by omega
        have HKN := hide hkn
        clear hc hkn
        by_cases hf : f (k + 1) = f k
        · have NX := hide (fun q => NO.out q (fun h => h.elim HKN.out (fun h => h hf)))
          rw [hf] at ck1 ck1'
          clear YES NO hf
          go_wp2
          go_quiet (fail)
          go_wp2
          go_roundg (n - k)
          case measure => omega
          case rel => exact ⟨k + 1, v, by go_num, rfl, by omega, by omega, hide (NX.out _)⟩
        · have HF := hide hf
          have g1 : (f (k + 1) == f k) = false := by simp [hf]
          have g2 : (f k == f (k + 1)) = false := by simp; exact fun h => hf h.symm
          have g3 : ¬ f k = f (k + 1) := fun h => hf h.symm
          clear NO
          go_wp2
          go_quiet (fail)
          go_wp2_with (at_builtin; refine wpList_append_drawn2 _ rfl _ _ 22 rfl w.heap.size 3 i0 (.int .i64 0) 1 8 Try.underlying22 hi hz0 hz1 hz2 rfl (by decide) v _ _ rfl (World.ownsRow.alloc (w := wo.drewN nq) hown.out _) ⟨wo.heap.size, 0, none⟩ 1 1 [.int .i64 ((k : Int) + 1)] rfl (by decide) rfl ?c1 ?c2 ?c3 ?c4 ?c5 ?_)
          case c1 =>
            intro j u hj
            match j, hj with
            | 0, hj => simp at hj; subst hj; exact (Blk.new (W := wo.drewN nq) (b := wo.heap.size) (T := 3) (vs := [.int .i64 ((k : Int) + 1)]) rfl).cell 0 rfl
          case c2 => intro u hu; simp at hu; subst hu; rfl
          case c3 => unfold maxLen; omega
          case c4 => omega
          case c5 => have := hsz.out; simp; omega
          · intro v' w1 hown' hgrow hd _
            have NX := hide (YES.out nq w1 v' _ (by omega) (Or.inr HF.out) hown' hgrow hd)
            clear hown' hgrow hown hd YES
            go_wp2
            go_roundg (n - k)
            case measure => omega
            case rel => exact ⟨k + 1, v', by go_num, rfl, by omega, by omega, NX⟩
    · have hltz : ¬ (k : Int) < (n : Int) := by omega
      obtain rfl : n = k := by omega
      go_wp2
      go_ret
      exact ⟨v, rfl, S.out⟩

set_option maxRecDepth 100000 in
set_option maxHeartbeats 4000000 in
theorem refRuns_any (n c : Nat) (p : Option Addr) (f : Nat → Int) (w : World) (hl : Reads w p n f) (hn : n ≤ 2000) :
    Calls Try.prog 18 #[.slice p n c] w fun e w' => ∃ v, e = .returned v ∧ RunS f n w n v w' := by
  obtain ⟨i0, hi, hz0, hz1, hz2⟩ := info_parts info_int
  have S0 : Hid (RunS f n w 0 (.slice none 0 0) w) := ⟨Grew.refl _, World.ownsRow_nil _ _ _ _⟩
  have HL := hide hl
  clear hl
  go_enter Try.func18, Try.ntmps18
  go_wp2
  go_loopg [3, 4] (n + 1) (fun gh vv vk wr => ∃ (k : Nat) (v : Value), vk = .int .i64 (k : Int) ∧ v = vv ∧ k ≤ n ∧ n - k < gh ∧ Hid (RunS f n w k v wr))
  case atStart => exact ⟨0, _, by go_num, rfl, by omega, by omega, S0⟩
  case round =>
    clear S0
    obtain ⟨wo, rfl⟩ : ∃ wo : World, wo = wr := ⟨_, rfl⟩
    obtain ⟨k, v, rfl, rfl, hk, hg, S⟩ := hrel
    by_cases hlt : k < n
    · have hltz : (k : Int) < (n : Int) := by omega
      obtain ⟨b, off, rfl, hc⟩ := (HL.out.grew S.out.1) (by omega)
      have ck := hc k hlt
      have hlen := runsL_len f n k
      have hown := hide S.out.2
      have hsz : Hid (w.heap.size ≤ wo.heap.size) := S.out.1.size
      have G := hide S.out.1
      have YES : Hid (∀ q w1 v' (x : Int), x = (k : Int) + 1 → (k + 1 = n ∨ f (k + 1) ≠ f k) → w1.ownsRow w.heap.size 3 1 v' ((runsL f n k).length + 1) (lits' (runsL f n k) ++ [.int .i64 x]) → ((wo.drewN q).alloc (.cells #[.int .i64 x] 3)).grownBy w1 v.ownBlock → (wo.drewN q).drawn ≤ w1.drawn → RunS f n w (k + 1) v' w1) := fun q w1 v' x hx h h1 h2 h3 => by
        subst hx
        refine ⟨((G.out.drewN q).alloc _).appended h2 h3 (own_lt hown.out), ?_⟩
        have e : lits' (runsL f n k ++ [((k + 1 : Nat) : Int)]) = lits' (runsL f n k) ++ [.int .i64 ((k : Int) + 1)] := by
          unfold lits'; rw [List.map_append]; rfl
        rw [runsL_yes h, e, List.length_append]; exact h1
      have NO : Hid (∀ q, ¬ (k + 1 = n ∨ f (k + 1) ≠ f k) → RunS f n w (k + 1) v (wo.drewN q)) := fun q h => by
        refine ⟨G.out.drewN q, ?_⟩
        rw [runsL_no h]; exact hown.out
      clear S
      by_cases hkn : k + 1 = n
      · have e1 : ((k : Int) + 1 == (n : Int)) = true := by simp; omega
        have HKN := hide hkn
        clear NO hc hkn
        go_wp2
        go_quiet (fail)
        go_wp2_with (at_builtin; refine wpList_append_drawn2 _ rfl _ _ 22 rfl w.heap.size 3 i0 (.int .i64 0) 1 8 Try.underlying22 hi hz0 hz1 hz2 rfl (by decide) v _ _ rfl (World.ownsRow.alloc (w := wo.drewN nq) hown.out _) ⟨wo.heap.size, 0, none⟩ 1 1 [.int .i64 ((k : Int) + 1)] rfl (by decide) rfl ?c1 ?c2 ?c3 ?c4 ?c5 ?_)
        case c1 =>
          intro j u hj
          match j, hj with
          | 0, hj => simp at hj; subst hj; exact (Blk.new (W := wo.drewN nq) (b := wo.heap.size) (T := 3) (vs := [.int .i64 ((k : Int) + 1)]) rfl).cell 0 rfl
        case c2 => intro u hu; simp at hu; subst hu; rfl
        case c3 => unfold maxLen; omega
        case c4 => omega
        case c5 => have := hsz.out; simp; omega
        · intro v' w1 hown' hgrow hd _
          have NX := hide (YES.out nq w1 v' _ (by omega) (Or.inl HKN.out) hown' hgrow hd)
          clear hown' hgrow hown hd YES
          go_wp2
          go_roundg (n - k)
          case measure => omega
          case rel => exact ⟨k + 1, v', by go_num, rfl, by omega, by omega, NX⟩
      · have hk1 : k + 1 < n := by omega
        have hk1z : (k : Int) + 1 < (n : Int) := by omega
        have ck1 := hc (k + 1) hk1
        have ck1' : wo.cell? ⟨b, off + (k + 1), none⟩ = some (.int .i64 (f (k + 1))) := ck1
        have e1 : ((k : Int) + 1 == (n : Int)) = false := by simp; omega
        have e2 : ¬ (k : Int) + 1 = (n : Int) := by omega
        have HKN := hide hkn
        clear hc hkn
        by_cases hf : f (k + 1) = f k
        · have NX := hide (fun q => NO.out q (fun h => h.elim HKN.out (fun h => h hf)))
          rw [hf] at ck1 ck1'
          clear YES NO hf
          go_wp2
          go_quiet (fail)
          go_wp2
          go_roundg (n - k)
          case measure => omega
          case rel => exact ⟨k + 1, v, by go_num, rfl, by omega, by omega, hide (NX.out _)⟩
        · have HF := hide hf
          have g1 : (f (k + 1) == f k) = false := by simp [hf]
          have g2 : (f k == f (k + 1)) = false := by simp; exact fun h => hf h.symm
          have g3 : ¬ f k = f (k + 1) := fun h => hf h.symm
          clear NO
          go_wp2
          go_quiet (fail)
          go_wp2_with (at_builtin; refine wpList_append_drawn2 _ rfl _ _ 22 rfl w.heap.size 3 i0 (.int .i64 0) 1 8 Try.underlying22 hi hz0 hz1 hz2 rfl (by decide) v _ _ rfl (World.ownsRow.alloc (w := wo.drewN nq) hown.out _) ⟨wo.heap.size, 0, none⟩ 1 1 [.int .i64 ((k : Int) + 1)] rfl (by decide) rfl ?c1 ?c2 ?c3 ?c4 ?c5 ?_)
          case c1 =>
            intro j u hj
            match j, hj with
            | 0, hj => simp at hj; subst hj; exact (Blk.new (W := wo.drewN nq) (b := wo.heap.size) (T := 3) (vs := [.int .i64 ((k : Int) + 1)]) rfl).cell 0 rfl
          case c2 => intro u hu; simp at hu; subst hu; rfl
          case c3 => unfold maxLen; omega
          case c4 => omega
          case c5 => have := hsz.out; simp; omega
          · intro v' w1 hown' hgrow hd _
            have NX := hide (YES.out nq w1 v' _ (by omega) (Or.inr HF.out) hown' hgrow hd)
            clear hown' hgrow hown hd YES
            go_wp2
            go_roundg (n - k)
            case measure => omega
            case rel => exact ⟨k + 1, v', by go_num, rfl, by omega, by omega, NX⟩
    · have hltz : ¬ (k : Int) < (n : Int) := by omega
      obtain rfl : n = k := by omega
      go_wp2
      go_ret
      exact ⟨v, rfl, S.out⟩
end Go.Proofs.Ytdkmjhbkjhikfaa
