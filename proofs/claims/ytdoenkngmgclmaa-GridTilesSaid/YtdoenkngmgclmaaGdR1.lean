/- What length, total and check of the reference of package grid return; no condition but on the lengths of lists. -/
import Derived.Test.YtdoenkngmgclmaaGdM
import Derived.Deep.Cut
import Derived.Deep.LoopGhost
namespace Go.Proofs.Ytdoenkngmgclmaa
open Go.RowKit Go.Sort
set_option linter.unusedVariables false
set_option linter.unusedSimpArgs false

theorem rlen19_any (x : Int) (w : World) :
    Calls Try.prog 50 #[.int .i64 x] w fun e w' => e = .returned (.bool (lenB x)) ∧ w = w' := by
  unfold lenB
  by_cases h1 : 0 ≤ x
  · by_cases h2 : x ≤ 1048576
    · rw [decide_eq_true ⟨h1, h2⟩]
      go_enter Try.func50, Try.ntmps50
      go_wp2
      go_ret
      exact ⟨rfl, rfl⟩
    · rw [decide_eq_false (fun h => h2 h.2)]
      go_enter Try.func50, Try.ntmps50
      go_wp2
      go_ret
      exact ⟨rfl, rfl⟩
  · rw [decide_eq_false (fun h => h1 h.1)]
    go_enter Try.func50, Try.ntmps50
    go_wp2
    go_ret
    exact ⟨rfl, rfl⟩
set_option maxHeartbeats 8000000 in
set_option maxRecDepth 100000 in
theorem rchk_any (av gap : Int) (p q : Option Addr) (n m c d : Nat) (t : Nat → Tk) (I : Nat → It) (w : World) (hp : SRow w p n 2 (trC t)) (hq : SRow w q m 4 (itC I)) (hn : n ≤ 100000) (hm : m ≤ 100000) :
    Calls Try.prog 36 #[.int .i64 av, .int .i64 gap, .slice p n c, .slice q m d] w fun e w' => e = .returned (.int .i64 (erG av gap n t m I)) ∧ Below w.heap.size w w' := by
  by_cases h1 : 24 < n
  · have e : erG av gap n t m I = 2 := by unfold erG; rw [if_pos (Or.inl h1)]
    have hz : (24 : Int) < (n : Int) := by omega
    rw [e]
    clear hp hq e
    go_enter Try.func36, Try.ntmps36
    go_wp2_with fail
    go_ret
    exact ⟨rfl, Below.refl _ _⟩
  have hz : ¬ (24 : Int) < (n : Int) := by omega
  by_cases h2 : 100 < m
  · have e : erG av gap n t m I = 2 := by unfold erG; rw [if_pos (Or.inr h2)]
    have hy : (100 : Int) < (m : Int) := by omega
    rw [e]
    clear hp hq e
    go_enter Try.func36, Try.ntmps36
    go_wp2_with fail
    go_ret
    exact ⟨rfl, Below.refl _ _⟩
  have hy : ¬ (100 : Int) < (m : Int) := by omega
  have NO : Hid (¬ allOk av gap n t m I → erG av gap n t m I = 1) := fun h => by unfold erG; rw [if_neg (by omega), if_neg h]
  have YES : Hid (allOk av gap n t m I → erG av gap n t m I = 0) := fun h => by unfold erG; rw [if_neg (by omega), if_pos h]
  generalize erG av gap n t m I = er at *
  have L1 := fun W => hide (rlen19_any av W)
  have L2 := fun W => hide (rlen19_any gap W)
  have HP := hide hp
  have HQ := hide hq
  clear hp hq
  by_cases ha : 0 ≤ av ∧ av ≤ 1048576
  case neg =>
    have e : er = 1 := NO.out fun h => ha h.1
    rw [show lenB av = false from decide_eq_false ha] at L1
    clear NO YES L2
    go_enter Try.func36, Try.ntmps36
    go_wp2_with fail
    refine (L1 _).out.mono ?_
    rintro e w' ⟨rfl, rfl⟩
    go_wp2_with fail
    go_ret
    exact ⟨by first | exact ret_int e.symm | exact ret_int rfl | (rename_i e0; exact ret_int e0.symm), Below.refl _ _⟩
  rw [show lenB av = true from decide_eq_true ha] at L1
  by_cases hg : 0 ≤ gap ∧ gap ≤ 1048576
  case neg =>
    have e9 : er = 1 := NO.out fun h => hg h.2.1
    rw [show lenB gap = false from decide_eq_false hg] at L2
    clear NO YES
    go_enter Try.func36, Try.ntmps36
    go_wp2_with fail
    refine (L1 _).out.mono ?_
    rintro e w' ⟨rfl, rfl⟩
    go_wp2_with fail
    refine (L2 _).out.mono ?_
    rintro e w' ⟨rfl, rfl⟩
    go_wp2_with fail
    go_ret
    exact ⟨by first | exact ret_int e9.symm | exact ret_int rfl, Below.refl _ _⟩
  rw [show lenB gap = true from decide_eq_true hg] at L2
  have HA := hide (And.intro ha hg)
  clear ha hg
  go_enter Try.func36, Try.ntmps36
  go_wp2_with fail
  refine (L1 _).out.mono ?_
  rintro e w' ⟨rfl, rfl⟩
  go_wp2_with fail
  refine (L2 _).out.mono ?_
  rintro e w' ⟨rfl, rfl⟩
  clear L1 L2
  go_wp2_with fail
  go_loopg [9] (n + 1) (fun g1 vk wr => ∃ k : Nat, vk = .int .i64 (k : Int) ∧ k ≤ n ∧ n - k < g1 ∧ Hid (Below w.heap.size w wr) ∧ Hid (∀ i, i < k → okT (t i)))
  case atStart => exact ⟨0, by go_num, by omega, by omega, Below.refl _ _, fun i hi => absurd hi (Nat.not_lt_zero _)⟩
  case round =>
    obtain ⟨wo, rfl⟩ : ∃ wo : World, wo = wr := ⟨_, rfl⟩
    obtain ⟨k, rfl, hk, hgg, B, OK⟩ := hrel
    by_cases hlt : k < n
    · have hltz : (k : Int) < (n : Int) := by omega
      obtain ⟨b, off, rfl, hb, hc⟩ := (HP.out.below B.out) (by omega)
      have c0 : wo.cell? ⟨b, off + k * 2, none⟩ = some (.int .i64 (t k).kd) := hc k hlt 0 (by decide)
      have c1 : wo.cell? ⟨b, off + k * 2 + 1, none⟩ = some (.int .i64 (t k).nn) := hc k hlt 1 (by decide)
      have B' : Hid (∀ o, Below w.heap.size w (wo.alloc o)) := fun o => B.out.alloc B.out.size o
      have LN := fun W => hide (rlen19_any (t k).nn W)
      have BAD : Hid (¬ okT (t k) → er = 1) := fun h => NO.out fun ho => h (ho.2.2.1 k hlt)
      have GOOD : Hid (okT (t k) → ∀ i, i < k + 1 → okT (t i)) := fun h i hi => by
        rcases Nat.lt_or_ge i k with h1 | h1
        · exact OK.out i h1
        · rw [show i = k by omega]; exact h
      clear hc hb B OK
      generalize hy0 : t k = y at *
      clear hy0
      obtain ⟨kd, nn⟩ := y
      unfold okT at BAD GOOD
      dsimp only at *
      rcases (show kd < 0 ∨ (¬ kd < 0 ∧ 2 < kd) ∨ (kd = 0 ∧ ¬ (0 ≤ nn ∧ nn ≤ 1048576)) ∨ (kd = 0 ∧ 0 ≤ nn ∧ nn ≤ 1048576) ∨ (kd = 1 ∧ nn ≠ 0) ∨ (kd = 1 ∧ nn = 0) ∨ (kd = 2 ∧ nn < 1) ∨ (kd = 2 ∧ ¬ nn < 1 ∧ 1000 < nn) ∨ (kd = 2 ∧ ¬ nn < 1 ∧ ¬ 1000 < nn) by omega) with h | ⟨h, h'⟩ | ⟨rfl, h⟩ | ⟨rfl, h, h'⟩ | ⟨rfl, h⟩ | ⟨rfl, rfl⟩ | ⟨rfl, h⟩ | ⟨rfl, h, h'⟩ | ⟨rfl, h, h'⟩
      · have dd : decide (kd < 0) = true := decide_eq_true h
        have e1 : er = 1 := BAD.out (by omega)
        clear BAD GOOD
        go_wp2_with fail
        go_ret
        exact ⟨by first | exact ret_int e1.symm | exact ret_int rfl, B'.out _⟩
      · have dd : decide (kd < 0) = false := decide_eq_false h
        have de : decide (2 < kd) = true := decide_eq_true h'
        have e1 : er = 1 := BAD.out (by omega)
        clear BAD GOOD
        go_wp2_with fail
        go_ret
        exact ⟨by first | exact ret_int e1.symm | exact ret_int rfl, B'.out _⟩
      · rw [show lenB nn = false from decide_eq_false h] at LN
        have e1 : er = 1 := BAD.out (by omega)
        clear BAD GOOD
        go_wp2_with fail
        refine (LN _).out.mono ?_
        rintro e w' ⟨rfl, rfl⟩
        go_wp2_with fail
        go_ret
        exact ⟨by first | exact ret_int e1.symm | exact ret_int rfl, B'.out _⟩
      · rw [show lenB nn = true from decide_eq_true ⟨h, h'⟩] at LN
        have GG := hide (GOOD.out (by omega))
        clear BAD GOOD
        go_wp2_with fail
        refine (LN _).out.mono ?_
        rintro e w' ⟨rfl, rfl⟩
        go_wp2_with fail
        go_roundg (n - k)
        case measure => omega
        case rel => exact ⟨k + 1, by go_num, by omega, by omega, B'.out _, GG⟩
      · have dd : (nn != 0) = true := by simpa using h
        have e1 : er = 1 := BAD.out (by omega)
        clear BAD GOOD
        go_wp2_with fail
        go_ret
        exact ⟨by first | exact ret_int e1.symm | exact ret_int rfl, B'.out _⟩
      · skip
        have GG := hide (GOOD.out (by omega))
        clear BAD GOOD
        go_wp2_with fail
        go_roundg (n - k)
        case measure => omega
        case rel => exact ⟨k + 1, by go_num, by omega, by omega, B'.out _, GG⟩
      · have dd : decide (nn < 1) = true := decide_eq_true h
        have e1 : er = 1 := BAD.out (by omega)
        clear BAD GOOD
        go_wp2_with fail
        go_ret
        exact ⟨by first | exact ret_int e1.symm | exact ret_int rfl, B'.out _⟩
      · have dd : decide (nn < 1) = false := decide_eq_false h
        have de : decide (1000 < nn) = true := decide_eq_true h'
        have e1 : er = 1 := BAD.out (by omega)
        clear BAD GOOD
        go_wp2_with fail
        go_ret
        exact ⟨by first | exact ret_int e1.symm | exact ret_int rfl, B'.out _⟩
      · have dd : decide (nn < 1) = false := decide_eq_false h
        have de : decide (1000 < nn) = false := decide_eq_false h'
        have GG := hide (GOOD.out (by omega))
        clear BAD GOOD
        go_wp2_with fail
        go_roundg (n - k)
        case measure => omega
        case rel => exact ⟨k + 1, by go_num, by omega, by omega, B'.out _, GG⟩
    · have hltz : ¬ (k : Int) < (n : Int) := by omega
      obtain rfl : n = k := by omega
      have B0 := hide B.out
      have OKT := hide OK.out
      clear B OK
      go_wp2_with fail
      go_loopg [11] (m + 1) (fun g2 vk wr => ∃ k : Nat, vk = .int .i64 (k : Int) ∧ k ≤ m ∧ m - k < g2 ∧ Hid (Below w.heap.size w wr) ∧ Hid (∀ i, i < k → okI n (I i)))
      case atStart => exact ⟨0, by go_num, by omega, by omega, B0, fun i hi => absurd hi (Nat.not_lt_zero _)⟩
      case round =>
        clear B0
        obtain ⟨wq, rfl⟩ : ∃ wq : World, wq = wr := ⟨_, rfl⟩
        obtain ⟨k, rfl, hk2, hg2, B, OK⟩ := hrel
        by_cases hlt : k < m
        · have hltm : (k : Int) < (m : Int) := by omega
          obtain ⟨b, off, rfl, hb, hc⟩ := (HQ.out.below B.out) (by omega)
          have c0 : wq.cell? ⟨b, off + k * 4, none⟩ = some (.int .i64 (I k).at_) := hc k hlt 0 (by decide)
          have c1 : wq.cell? ⟨b, off + k * 4 + 1, none⟩ = some (.int .i64 (I k).sp) := hc k hlt 1 (by decide)
          have c2 : wq.cell? ⟨b, off + k * 4 + 2, none⟩ = some (.int .i64 (I k).mn) := hc k hlt 2 (by decide)
          have c3 : wq.cell? ⟨b, off + k * 4 + 3, none⟩ = some (.int .i64 (I k).mx) := hc k hlt 3 (by decide)
          have B' : Hid (∀ o, Below w.heap.size w (wq.alloc o)) := fun o => B.out.alloc B.out.size o
          have L1 := fun W => hide (rlen19_any (I k).mn W)
          have L2 := fun W => hide (rlen19_any (I k).mx W)
          have BAD : Hid (¬ okI n (I k) → er = 1) := fun h => NO.out fun ho => h (ho.2.2.2 k hlt)
          have GOOD : Hid (okI n (I k) → ∀ i, i < k + 1 → okI n (I i)) := fun h i hi => by
            rcases Nat.lt_or_ge i k with h1 | h1
            · exact OK.out i h1
            · rw [show i = k by omega]; exact h
          clear hc hb B OK
          generalize hy0 : I k = y at *
          clear hy0
          obtain ⟨at_, sp, mn, mx⟩ := y
          unfold okI at BAD GOOD
          dsimp only at *
          by_cases h1 : 0 ≤ mn ∧ mn ≤ 1048576
          case neg =>
            rw [show lenB mn = false from decide_eq_false h1] at L1
            · have e1 : er = 1 := BAD.out (by omega)
              clear BAD GOOD
              go_wp2_with fail
              refine (L1 _).out.mono ?_
              rintro e w' ⟨rfl, rfl⟩
              go_wp2_with fail
              go_ret
              exact ⟨by first | exact ret_int e1.symm | exact ret_int rfl, B'.out _⟩
          rw [show lenB mn = true from decide_eq_true h1] at L1
          by_cases h2 : 0 ≤ mx ∧ mx ≤ 1048576
          case neg =>
            rw [show lenB mx = false from decide_eq_false h2] at L2
            · have e1 : er = 1 := BAD.out (by omega)
              clear BAD GOOD
              go_wp2_with fail
              refine (L1 _).out.mono ?_
              rintro e w' ⟨rfl, rfl⟩
              go_wp2_with fail
              refine (L2 _).out.mono ?_
              rintro e w' ⟨rfl, rfl⟩
              go_wp2_with fail
              go_ret
              exact ⟨by first | exact ret_int e1.symm | exact ret_int rfl, B'.out _⟩
          rw [show lenB mx = true from decide_eq_true h2] at L2
          rcases (show at_ < 0 ∨ (0 ≤ at_ ∧ (n : Int) ≤ at_) ∨ (0 ≤ at_ ∧ at_ < n ∧ sp < 1) ∨ (0 ≤ at_ ∧ at_ < n ∧ 1 ≤ sp ∧ n - at_ < sp) ∨ (0 ≤ at_ ∧ at_ < n ∧ 1 ≤ sp ∧ sp ≤ n - at_) by omega) with h | ⟨h, h'⟩ | ⟨h, h', h3⟩ | ⟨h, h', h3, h4⟩ | ⟨h, h', h3, h4⟩
          · have d1 : decide (at_ < 0) = true := decide_eq_true h
            have e1 : er = 1 := BAD.out (by omega)
            clear BAD GOOD
            go_wp2_with fail
            refine (L1 _).out.mono ?_
            rintro e w' ⟨rfl, rfl⟩
            go_wp2_with fail
            refine (L2 _).out.mono ?_
            rintro e w' ⟨rfl, rfl⟩
            go_wp2_with fail
            go_ret
            exact ⟨by first | exact ret_int e1.symm | exact ret_int rfl, B'.out _⟩
          · have d1 : decide (at_ < 0) = false := decide_eq_false (by omega)
            have d2 : decide ((n : Int) ≤ at_) = true := decide_eq_true h'
            have e1 : er = 1 := BAD.out (by omega)
            clear BAD GOOD
            go_wp2_with fail
            refine (L1 _).out.mono ?_
            rintro e w' ⟨rfl, rfl⟩
            go_wp2_with fail
            refine (L2 _).out.mono ?_
            rintro e w' ⟨rfl, rfl⟩
            go_wp2_with fail
            go_ret
            exact ⟨by first | exact ret_int e1.symm | exact ret_int rfl, B'.out _⟩
          · have d1 : decide (at_ < 0) = false := decide_eq_false (by omega)
            have d2 : decide ((n : Int) ≤ at_) = false := decide_eq_false (by omega)
            have d3 : decide (sp < 1) = true := decide_eq_true h3
            have e1 : er = 1 := BAD.out (by omega)
            clear BAD GOOD
            go_wp2_with fail
            refine (L1 _).out.mono ?_
            rintro e w' ⟨rfl, rfl⟩
            go_wp2_with fail
            refine (L2 _).out.mono ?_
            rintro e w' ⟨rfl, rfl⟩
            go_wp2_with fail
            go_ret
            exact ⟨by first | exact ret_int e1.symm | exact ret_int rfl, B'.out _⟩
          · have d1 : decide (at_ < 0) = false := decide_eq_false (by omega)
            have d2 : decide ((n : Int) ≤ at_) = false := decide_eq_false (by omega)
            have d3 : decide (sp < 1) = false := decide_eq_false (by omega)
            have wn : IntKind.i64.wrap ((n : Int) - at_) = n - at_ := wr (by omega) (by omega)
            have d4 : decide ((n : Int) - at_ < sp) = true := decide_eq_true h4
            have e1 : er = 1 := BAD.out (by omega)
            clear BAD GOOD
            go_wp2_with fail
            refine (L1 _).out.mono ?_
            rintro e w' ⟨rfl, rfl⟩
            go_wp2_with fail
            refine (L2 _).out.mono ?_
            rintro e w' ⟨rfl, rfl⟩
            go_wp2_with fail
            go_ret
            exact ⟨by first | exact ret_int e1.symm | exact ret_int rfl, B'.out _⟩
          · have d1 : decide (at_ < 0) = false := decide_eq_false (by omega)
            have d2 : decide ((n : Int) ≤ at_) = false := decide_eq_false (by omega)
            have d3 : decide (sp < 1) = false := decide_eq_false (by omega)
            have wn : IntKind.i64.wrap ((n : Int) - at_) = n - at_ := wr (by omega) (by omega)
            have d4 : decide ((n : Int) - at_ < sp) = false := decide_eq_false (by omega)
            have GG := hide (GOOD.out (by omega))
            clear BAD GOOD
            go_wp2_with fail
            refine (L1 _).out.mono ?_
            rintro e w' ⟨rfl, rfl⟩
            go_wp2_with fail
            refine (L2 _).out.mono ?_
            rintro e w' ⟨rfl, rfl⟩
            go_wp2_with fail
            go_roundg (m - k)
            case measure => omega
            case rel => exact ⟨k + 1, by go_num, by omega, by omega, B'.out _, GG⟩
        · have hltm : ¬ (k : Int) < (m : Int) := by omega
          obtain rfl : m = k := by omega
          have e1 : er = 0 := YES.out ⟨HA.out.1, HA.out.2, OKT.out, OK.out⟩
          go_wp2_with fail
          go_ret
          exact ⟨by first | exact ret_int e1.symm | exact ret_int rfl, B.out⟩
end Go.Proofs.Ytdoenkngmgclmaa
