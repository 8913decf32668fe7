/- What the small functions of package grid return: within, gapSum, sumOf, lengths, extent, isFraction, validTrack, validItem; and check; no condition but on the lengths of lists. -/
import Derived.Test.YtdoenkngmgclmaaBoPA
import Derived.Test.YtdoenkngmgclmaaGdM
import Derived.Test.YtdoenkngmgclmaaBoF
import Derived.Test.YtdoenkngmgclmaaMixJ
import Derived.Test.YtdoenkngmgclmaaGdR2
import Derived.BigQuiet
namespace Go.Proofs.Ytdoenkngmgclmaa
open Go.RowKit Go.Sort
set_option linter.unusedVariables false
set_option linter.unusedSimpArgs false

theorem gwithin_any (x lo hi : Int) (w : World) :
    Calls Try.prog 20 #[.int .i64 x, .int .i64 lo, .int .i64 hi] w fun e w' => e = .returned (.bool (inB x lo hi)) ∧ w = w' := by
  unfold inB
  by_cases h1 : lo ≤ x
  · by_cases h2 : x ≤ hi
    · rw [decide_eq_true ⟨h1, h2⟩]
      go_enter Try.func20, Try.ntmps20
      go_wp2
      go_ret
      exact ⟨rfl, rfl⟩
    · rw [decide_eq_false (fun h => h2 h.2)]
      go_enter Try.func20, Try.ntmps20
      go_wp2
      go_ret
      exact ⟨rfl, rfl⟩
  · rw [decide_eq_false (fun h => h1 h.1)]
    go_enter Try.func20, Try.ntmps20
    go_wp2
    go_ret
    exact ⟨rfl, rfl⟩
theorem ggapSum_any (gap : Int) (n : Nat) (w : World) (hg : 0 ≤ gap ∧ gap ≤ 1048576) (hn : n ≤ 100000) :
    Calls Try.prog 31 #[.int .i64 gap, .int .i64 (n : Int)] w fun e w' => e = .returned (.int .i64 (gsF gap n)) ∧ w = w' := by
  have b := gs_bd hg hn
  have e0 : IntKind.i64.wrap (gap * max ((n : Int) - 1) 0) = gap * max ((n : Int) - 1) 0 := wr (by unfold gsF at b; omega) (by unfold gsF at b; omega)
  unfold gsF
  clear b
  rcases (show n = 0 ∨ 1 ≤ n by omega) with h | h
  · subst h
    clear e0 hg hn
    have e1 : max (-1 : Int) 0 = 0 := by omega
    go_enter Try.func31, Try.ntmps31
    go_wp2
    go_ret
    exact ⟨ret_int (by simp [e1]), rfl⟩
  · have e1 : max ((n : Int) - 1) 0 = (n : Int) - 1 := by omega
    rw [e1] at e0 ⊢
    go_enter Try.func31, Try.ntmps31
    go_wp2
    go_ret
    exact ⟨by first | rfl | simp_all, rfl⟩
set_option maxHeartbeats 1000000 in
theorem gsum_any (p : Option Addr) (n c : Nat) (f : Nat → Int) (w : World) (hn : n ≤ 1048576) (hf : ∀ k, k < n → -4398046511104 ≤ f k ∧ f k ≤ 4398046511104) (hr : Reads w p n f) :
    Calls Try.prog 45 #[.slice p n c] w fun e w' => e = .returned (.int .i64 (sumF f n)) ∧ w = w' := by
  rcases Nat.eq_zero_or_pos n with rfl | hp
  · clear hr hf
    go_enter Try.func45, Try.ntmps45
    go_wp2
    refine wp_loop_rounds 1 ?_
    rw [rounds_succ]
    go_wp2
    go_ret
    exact ⟨rfl, rfl⟩
  · obtain ⟨b, off, rfl, hc⟩ := hr hp
    have HC := hide hc
    have HF := hide hf
    have hb : ∀ k, k ≤ n → -(k : Int) * 4398046511104 ≤ sumF f k ∧ sumF f k ≤ k * 4398046511104 := by
      intro k
      induction k with
      | zero => intro _; simp [sumF]
      | succ k ih =>
        intro hk
        have := ih (by omega)
        have := hf k (by omega)
        simp only [sumF]
        omega
    have HB := hide hb
    clear hr hc hf hb
    go_enter Try.func45, Try.ntmps45
    go_wp2
    go_loop [3, 8] (fun s i => ∃ k : Nat, k ≤ n ∧ i = .int .i64 k ∧ s = .int .i64 (sumF f k)) (fun _ i => n - (intOf i).toNat)
    case atStart => exact ⟨0, Nat.zero_le _, rfl, rfl⟩
    case round =>
      obtain ⟨k, hk, rfl, rfl⟩ := hrel
      by_cases hlt : k < n
      · have hltz : (k : Int) < (n : Int) := by omega
        have ck := HC.out k hlt
        have fk := HF.out k hlt
        have bk := HB.out k hk
        have E : Hid (sumF f (k + 1) = sumF f k + f k) := rfl
        obtain ⟨fk1, fk2⟩ := fk
        obtain ⟨bk1, bk2⟩ := bk
        go_wp2
        go_round
        case rel => exact ⟨k + 1, by omega, by go_num, by rw [E.out]⟩
        case measure => simp [intOf]; omega
      · have hltz : ¬ (k : Int) < (n : Int) := by omega
        obtain rfl : n = k := by omega
        go_wp2
        go_ret
        exact ⟨rfl, rfl⟩
set_option maxHeartbeats 1000000 in
theorem glengths_any (p : Option Addr) (n c : Nat) (f : Nat → Int) (w : World) (hn : n ≤ 1048576) (hr : Reads w p n f) :
    Calls Try.prog 35 #[.slice p n c] w fun e w' => e = .returned (.bool (lensB f n)) ∧ w = w' := by
  rcases Nat.eq_zero_or_pos n with rfl | hp
  · clear hr
    go_enter Try.func35, Try.ntmps35
    go_wp2
    refine wp_loop_rounds 1 ?_
    rw [rounds_succ]
    go_wp2
    go_ret
    exact ⟨rfl, rfl⟩
  · obtain ⟨b, off, rfl, hc⟩ := hr hp
    have HC := hide hc
    clear hr hc
    go_enter Try.func35, Try.ntmps35
    go_wp2
    go_loop [7] (fun i => ∃ k : Nat, k ≤ n ∧ i = .int .i64 k ∧ Hid (lensB f k = true)) (fun i => n - (intOf i).toNat)
    case atStart => exact ⟨0, Nat.zero_le _, rfl, rfl⟩
    case round =>
      obtain ⟨k, hk, rfl, T⟩ := hrel
      by_cases hlt : k < n
      · have hltz : (k : Int) < (n : Int) := by omega
        have ck := HC.out k hlt
        have W := fun W => hide (gwithin_any (f k) 0 1048576 W)
        have e0 : inB (f k) 0 1048576 = lenB (f k) := rfl
        rw [e0] at W
        cases hl : lenB (f k) with
        | true =>
          have T2 : Hid (lensB f (k + 1) = true) := by show _ = _; rw [lensB, T.out, hl]; rfl
          rw [hl] at W
          clear hl e0 T
          go_wp2_with fail
          refine (W _).out.mono ?_
          rintro e w' ⟨rfl, rfl⟩
          go_wp2_with fail
          go_round
          case rel => exact ⟨k + 1, by omega, by go_num, T2⟩
          case measure => simp [intOf]; omega
        | false =>
          have e9 := hide (lensB_not hlt hl)
          rw [hl] at W
          clear hl e0 T
          go_wp2_with fail
          refine (W _).out.mono ?_
          rintro e w' ⟨rfl, rfl⟩
          go_wp2_with fail
          go_ret
          rw [e9.out]
          exact ⟨rfl, rfl⟩
      · have hltz : ¬ (k : Int) < (n : Int) := by omega
        obtain rfl : n = k := by omega
        go_wp2
        go_ret
        rw [T.out]
        exact ⟨rfl, rfl⟩

theorem tot_gs (gap : Int) (s : Nat → Int) (n : Nat) : totG gap s n = sumF s n + gsF gap n := by
  unfold totG gsF
  by_cases h : 1 < n
  · rw [if_pos h, show max ((n : Int) - 1) 0 = (n : Int) - 1 by omega]
  · rw [if_neg h, show max ((n : Int) - 1) 0 = 0 by omega, Int.mul_zero]
theorem gext_any (gap : Int) (p : Option Addr) (n c : Nat) (s : Nat → Int) (w : World) (hr : Reads w p n s) (hn : n ≤ 24) (hg : 0 ≤ gap ∧ gap ≤ 1048576) (hs : ∀ i, i < n → 0 ≤ s i ∧ s i ≤ 134217728) :
    Calls Try.prog 34 #[.int .i64 gap, .slice p n c] w fun e w' => e = .returned (.int .i64 (totG gap s n)) ∧ w = w' := by
  have SM := hide (gsum_any p n c s w (by omega) (fun k hk => by have := hs k hk; omega) hr)
  have GS := fun W => hide (ggapSum_any gap n W hg (by omega))
  have b := sumF_bound (f := s) (B := 134217728) n hs
  have g := gs_bd (n := n) hg (by omega)
  rw [tot_gs]
  obtain ⟨b1, b2⟩ := b
  obtain ⟨g1, g2⟩ := g
  have b3 : sumF s n ≤ 4294967296 := by omega
  have g3 : gsF gap n ≤ 4294967296 := by omega
  clear hr hs b2 g2
  generalize sumF s n = S at *
  generalize gsF gap n = G at *
  go_enter Try.func34, Try.ntmps34
  go_wp2_with fail
  refine SM.out.mono ?_
  rintro e w' ⟨rfl, rfl⟩
  go_wp2_with fail
  refine (GS _).out.mono ?_
  rintro e w' ⟨rfl, rfl⟩
  go_wp2_with fail
  go_ret
  exact ⟨rfl, rfl⟩
theorem glens1 (a : Int) (w : World) : Calls Try.prog 35 #[.slice (some ⟨w.heap.size, 0, none⟩) 1 1] (w.alloc (.cells #[.int .i64 a] 3)) fun e w' => e = .returned (.bool (lenB a)) ∧ w.alloc (.cells #[.int .i64 a] 3) = w' := by
  have h := glengths_any (some ⟨w.heap.size, 0, none⟩) 1 1 (fun i => a) (w.alloc (.cells #[.int .i64 a] 3)) (by omega) (IRow.new w 1 (fun i => a)).reads
  have e : lensB (fun i => a) 1 = lenB a := by simp [lensB]
  rw [e] at h
  exact h
theorem glens2 (a b : Int) (w : World) : Calls Try.prog 35 #[.slice (some ⟨w.heap.size, 0, none⟩) 2 2] (w.alloc (.cells #[.int .i64 a, .int .i64 b] 3)) fun e w' => e = .returned (.bool (lenB a && lenB b)) ∧ w.alloc (.cells #[.int .i64 a, .int .i64 b] 3) = w' := by
  have h := glengths_any (some ⟨w.heap.size, 0, none⟩) 2 2 (fun i => if i = 0 then a else b) (w.alloc (.cells #[.int .i64 a, .int .i64 b] 3)) (by omega) (IRow.new w 2 (fun i => if i = 0 then a else b)).reads
  have e : lensB (fun i => if i = 0 then a else b) 2 = (lenB a && lenB b) := by simp [lensB]
  rw [e] at h
  exact h
abbrev tkU (t : Tk) : Value := .agg #[.int .i64 t.kd, .int .i64 t.nn]
theorem gfrac_any (t : Tk) (w : World) :
    Calls Try.prog 48 #[tkU t] w fun e w' => e = .returned (.bool (decide (t.kd = 2))) ∧ Below w.heap.size w w' := by
  have G := hide (fun o => (Below.refl w.heap.size w).alloc (Nat.le_refl _) o)
  obtain ⟨kd, nn⟩ := t
  dsimp only
  by_cases h : kd = 2
  · subst h
    go_enter Try.func48, Try.ntmps48
    go_wp2_with fail
    go_ret
    exact ⟨rfl, G.out _⟩
  · have d1 : (kd == 2) = false := by simpa using h
    go_enter Try.func48, Try.ntmps48
    go_wp2_with fail
    go_ret
    exact ⟨ret_bool (by simp [h]), G.out _⟩
def okTB (t : Tk) : Bool := if t.kd = 0 then lenB t.nn else if t.kd = 1 then decide (t.nn = 0) else if t.kd = 2 then inB t.nn 1 1000 else false
theorem okTB_iff (t : Tk) : okTB t = true ↔ okT t := by
  unfold okTB okT
  by_cases h0 : t.kd = 0
  · rw [if_pos h0, lenB_iff]; omega
  · rw [if_neg h0]
    by_cases h1 : t.kd = 1
    · rw [if_pos h1, decide_eq_true_eq]; omega
    · rw [if_neg h1]
      by_cases h2 : t.kd = 2
      · rw [if_pos h2]; unfold inB; rw [decide_eq_true_eq]; omega
      · rw [if_neg h2]; constructor
        · intro h; exact Bool.noConfusion h
        · intro h; omega
set_option maxHeartbeats 2000000 in
theorem gvt_any (t : Tk) (w : World) :
    Calls Try.prog 41 #[tkU t] w fun e w' => e = .returned (.bool (okTB t)) ∧ Below w.heap.size w w' := by
  have G1 := hide (fun o => (Below.refl w.heap.size w).alloc (Nat.le_refl _) o)
  have G2 : Hid (∀ o o', Below w.heap.size w ((w.alloc o).alloc o')) := fun o o' => (G1.out o).alloc (by rw [World.size_alloc]; omega) o'
  obtain ⟨kd, nn⟩ := t
  have M1 : ∀ o, Hid (Calls Try.prog 35 #[.slice (some ⟨w.heap.size + 1, 0, none⟩) 1 1] ((w.alloc o).alloc (.cells #[.int .i64 nn] 3)) fun e w' => e = .returned (.bool (lenB nn)) ∧ (w.alloc o).alloc (.cells #[.int .i64 nn] 3) = w') := fun o => by
    have := glens1 nn (w.alloc o)
    rw [World.size_alloc] at this
    exact hide this
  have M2 := fun W => hide (gwithin_any nn 1 1000 W)
  unfold okTB
  dsimp only
  by_cases h0 : kd = 0
  · subst h0
    clear M2
    rw [if_pos rfl]
    generalize lenB nn = v at *
    go_enter Try.func41, Try.ntmps41
    go_wp2_with fail
    refine (M1 _).out.mono ?_
    rintro e w' ⟨rfl, rfl⟩
    go_wp2_with fail
    go_ret
    exact ⟨rfl, G2.out _ _⟩
  rw [if_neg h0]
  have d0 : (kd == 0) = false := by simpa using h0
  by_cases h1 : kd = 1
  · subst h1
    clear M1 M2
    rw [if_pos rfl]
    by_cases hn : nn = 0
    · subst hn
      go_enter Try.func41, Try.ntmps41
      go_wp2_with fail
      go_ret
      exact ⟨rfl, G1.out _⟩
    · have dn : (nn == 0) = false := by simpa using hn
      go_enter Try.func41, Try.ntmps41
      go_wp2_with fail
      go_ret
      exact ⟨ret_bool (by simp [hn]), G1.out _⟩
  rw [if_neg h1]
  have d1 : (kd == 1) = false := by simpa using h1
  by_cases h2 : kd = 2
  · subst h2
    clear M1
    rw [if_pos rfl]
    generalize inB nn 1 1000 = v at *
    go_enter Try.func41, Try.ntmps41
    go_wp2_with fail
    refine (M2 _).out.mono ?_
    rintro e w' ⟨rfl, rfl⟩
    go_wp2_with fail
    go_ret
    exact ⟨rfl, G1.out _⟩
  rw [if_neg h2]
  have d2 : (kd == 2) = false := by simpa using h2
  clear M1 M2
  go_enter Try.func41, Try.ntmps41
  go_wp2_with fail
  go_ret
  exact ⟨rfl, G1.out _⟩
abbrev itV (x : It) : Value := .agg #[.int .i64 x.at_, .int .i64 x.sp, .int .i64 x.mn, .int .i64 x.mx]
def okIB (n : Nat) (x : It) : Bool := ((lenB x.mn && lenB x.mx) && inB x.at_ 0 ((n : Int) - 1)) && inB x.sp 1 ((n : Int) - x.at_)
theorem okIB_iff (n : Nat) (x : It) : okIB n x = true ↔ okI n x := by
  unfold okIB okI inB
  rw [Bool.and_eq_true, Bool.and_eq_true, Bool.and_eq_true, lenB_iff, lenB_iff, decide_eq_true_eq, decide_eq_true_eq]
  omega
set_option maxHeartbeats 4000000 in
theorem gvi_any (x : It) (n : Nat) (w : World) (hn : n ≤ 24) :
    Calls Try.prog 42 #[itV x, .int .i64 (n : Int)] w fun e w' => e = .returned (.bool (okIB n x)) ∧ Below w.heap.size w w' := by
  have G2 : Hid (∀ o o', Below w.heap.size w ((w.alloc o).alloc o')) := fun o o' => ((Below.refl w.heap.size w).alloc (Nat.le_refl _) o).alloc (by rw [World.size_alloc]; omega) o'
  obtain ⟨at_, sp, mn, mx⟩ := x
  have M1 : ∀ o, Hid (Calls Try.prog 35 #[.slice (some ⟨w.heap.size + 1, 0, none⟩) 2 2] ((w.alloc o).alloc (.cells #[.int .i64 mn, .int .i64 mx] 3)) fun e w' => e = .returned (.bool (lenB mn && lenB mx)) ∧ (w.alloc o).alloc (.cells #[.int .i64 mn, .int .i64 mx] 3) = w') := fun o => by
    have := glens2 mn mx (w.alloc o)
    rw [World.size_alloc] at this
    exact hide this
  have M2 := fun W => hide (gwithin_any at_ 0 ((n : Int) - 1) W)
  have M3 := fun W => hide (gwithin_any sp 1 ((n : Int) - at_) W)
  unfold okIB
  dsimp only
  have e1 : IntKind.i64.wrap ((n : Int) - 1) = (n : Int) - 1 := wr (by omega) (by omega)
  by_cases ha : inB at_ 0 ((n : Int) - 1) = true
  · have ha' := of_decide_eq_true ha
    obtain ⟨ha1, ha2⟩ := ha'
    have e2 : IntKind.i64.wrap ((n : Int) - at_) = (n : Int) - at_ := wr (by omega) (by omega)
    rw [ha] at M2 ⊢
    clear ha
    generalize (lenB mn && lenB mx) = v1 at *
    generalize inB sp 1 ((n : Int) - at_) = v3 at *
    cases v1
    all_goals cases v3
    all_goals
      go_enter Try.func42, Try.ntmps42
      go_wp2_with fail
      refine (M1 _).out.mono ?_
      rintro e w' ⟨rfl, rfl⟩
      go_wp2_with fail
      (try (refine (M2 _).out.mono ?_; rintro e w' ⟨rfl, rfl⟩; go_wp2_with fail; refine (M3 _).out.mono ?_; rintro e w' ⟨rfl, rfl⟩; go_wp2_with fail))
      go_ret
      exact ⟨rfl, G2.out _ _⟩
  · have ha : inB at_ 0 ((n : Int) - 1) = false := by simpa using ha
    rw [ha] at M2 ⊢
    clear ha M3
    generalize (lenB mn && lenB mx) = v1 at *
    generalize inB sp 1 ((n : Int) - at_) = v3 at *
    cases v1
    all_goals
      go_enter Try.func42, Try.ntmps42
      go_wp2_with fail
      refine (M1 _).out.mono ?_
      rintro e w' ⟨rfl, rfl⟩
      go_wp2_with fail
      (try (refine (M2 _).out.mono ?_; rintro e w' ⟨rfl, rfl⟩; go_wp2_with fail))
      go_ret
      exact ⟨rfl, G2.out _ _⟩
set_option maxHeartbeats 8000000 in
set_option maxRecDepth 100000 in
theorem gchk_any (av gap : Int) (p q : Option Addr) (n m c d : Nat) (t : Nat → Tk) (I : Nat → It) (w : World) (hp : SRow w p n 2 (trC t)) (hq : SRow w q m 4 (itC I)) (hn : n ≤ 100000) (hm : m ≤ 100000) :
    Calls Try.prog 29 #[.int .i64 av, .int .i64 gap, .slice p n c, .slice q m d] w fun e w' => e = .returned (.int .i64 (erG av gap n t m I)) ∧ Below w.heap.size w w' := by
  by_cases h1 : 24 < n
  · have e : erG av gap n t m I = 2 := by unfold erG; rw [if_pos (Or.inl h1)]
    have hz : (24 : Int) < (n : Int) := by omega
    rw [e]
    clear hp hq e
    go_enter Try.func29, Try.ntmps29
    go_wp2_with fail
    go_ret
    exact ⟨rfl, Below.refl _ _⟩
  have hz : ¬ (24 : Int) < (n : Int) := by omega
  by_cases h2 : 100 < m
  · have e : erG av gap n t m I = 2 := by unfold erG; rw [if_pos (Or.inr h2)]
    have hy : (100 : Int) < (m : Int) := by omega
    rw [e]
    clear hp hq e
    go_enter Try.func29, Try.ntmps29
    go_wp2_with fail
    go_ret
    exact ⟨rfl, Below.refl _ _⟩
  have hy : ¬ (100 : Int) < (m : Int) := by omega
  have NO : Hid (¬ allOk av gap n t m I → erG av gap n t m I = 1) := fun h => by unfold erG; rw [if_neg (by omega), if_neg h]
  have YES : Hid (allOk av gap n t m I → erG av gap n t m I = 0) := fun h => by unfold erG; rw [if_neg (by omega), if_pos h]
  generalize erG av gap n t m I = er at *
  have L := hide (glens2 av gap w)
  have HP := hide hp
  have HQ := hide hq
  have hB : Hid (Below w.heap.size w (w.alloc (.cells #[.int .i64 av, .int .i64 gap] 3))) := (Below.refl _ _).alloc (Nat.le_refl _) _
  clear hp hq
  by_cases ha : (0 ≤ av ∧ av ≤ 1048576) ∧ (0 ≤ gap ∧ gap ≤ 1048576)
  case neg =>
    have e9 : er = 1 := NO.out fun h => ha ⟨h.1, h.2.1⟩
    rw [show (lenB av && lenB gap) = false by
      cases hv : (lenB av && lenB gap) with
      | false => rfl
      | true => rw [Bool.and_eq_true, lenB_iff, lenB_iff] at hv; exact absurd hv ha] at L
    clear NO YES
    go_enter Try.func29, Try.ntmps29
    go_wp2_with fail
    refine L.out.mono ?_
    rintro e w' ⟨rfl, rfl⟩
    go_wp2_with fail
    go_ret
    exact ⟨by first | exact ret_int e9.symm | exact ret_int rfl, hB.out⟩
  rw [show (lenB av && lenB gap) = true by rw [Bool.and_eq_true, lenB_iff, lenB_iff]; exact ha] at L
  have HA := hide ha
  clear ha
  go_enter Try.func29, Try.ntmps29
  go_wp2_with fail
  refine L.out.mono ?_
  rintro e w' ⟨rfl, rfl⟩
  clear L
  go_wp2_with fail
  generalize w.alloc (.cells #[.int .i64 av, .int .i64 gap] 3) = w1 at *
  go_loopg [28] (n + 1) (fun g1 vk wr => ∃ k : Nat, vk = .int .i64 (k : Int) ∧ k ≤ n ∧ n - k < g1 ∧ Hid (Below w.heap.size w wr) ∧ Hid (∀ i, i < k → okT (t i)))
  case atStart => exact ⟨0, by go_num, by omega, by omega, hB, fun i hi => absurd hi (Nat.not_lt_zero _)⟩
  case round =>
    clear hB
    obtain ⟨wo, rfl⟩ : ∃ wo : World, wo = wr := ⟨_, rfl⟩
    obtain ⟨k, rfl, hk, hgg, B, OK⟩ := hrel
    by_cases hlt : k < n
    · have hltz : (k : Int) < (n : Int) := by omega
      obtain ⟨b, off, rfl, hb, hc⟩ := (HP.out.below B.out) (by omega)
      have c0 : wo.cell? ⟨b, off + k * 2, none⟩ = some (.int .i64 (t k).kd) := hc k hlt 0 (by decide)
      have c1 : wo.cell? ⟨b, off + k * 2 + 1, none⟩ = some (.int .i64 (t k).nn) := hc k hlt 1 (by decide)
      have BA : Hid (∀ o w', Below (wo.alloc o).heap.size (wo.alloc o) w' → Below w.heap.size w w') := fun o w' h => (B.out.alloc B.out.size o).trans (h.mono (by rw [World.size_alloc]; have := B.out.size; omega))
      have V := fun W => hide (gvt_any (t k) W)
      have BAD : Hid (okTB (t k) = false → er = 1) := fun h => NO.out fun ho => by
        have := (okTB_iff _).2 (ho.2.2.1 k hlt)
        rw [h] at this
        exact Bool.noConfusion this
      have GOOD : Hid (okTB (t k) = true → ∀ i, i < k + 1 → okT (t i)) := fun h i hi => by
        rcases Nat.lt_or_ge i k with h1 | h1
        · exact OK.out i h1
        · rw [show i = k by omega]; exact (okTB_iff _).1 h
      clear hc hb B OK
      generalize okTB (t k) = v at *
      generalize hy0 : t k = y at *
      clear hy0
      obtain ⟨kd, nn⟩ := y
      dsimp only at *
      cases v
      · have e1 := BAD.out rfl
        clear BAD GOOD
        go_wp2_with fail
        refine (V _).out.mono ?_
        rintro e w' ⟨rfl, hB2⟩
        have B2 := hide (BA.out _ _ hB2)
        clear V hB2 BA
        go_wp2_with fail
        go_ret
        exact ⟨by first | exact ret_int e1.symm | exact ret_int rfl, B2.out⟩
      · have GG := hide (GOOD.out rfl)
        clear BAD GOOD
        go_wp2_with fail
        refine (V _).out.mono ?_
        rintro e w' ⟨rfl, hB2⟩
        have B2 := hide (BA.out _ _ hB2)
        clear V hB2 BA
        go_wp2_with fail
        go_roundg (n - k)
        case measure => omega
        case rel => exact ⟨k + 1, by go_num, by omega, by omega, B2, GG⟩
    · have hltz : ¬ (k : Int) < (n : Int) := by omega
      obtain rfl : n = k := by omega
      have B0 := hide B.out
      have OKT := hide OK.out
      clear B OK
      go_wp2_with fail
      go_loopg [38] (m + 1) (fun g2 vk wr => ∃ k : Nat, vk = .int .i64 (k : Int) ∧ k ≤ m ∧ m - k < g2 ∧ Hid (Below w.heap.size w wr) ∧ Hid (∀ i, i < k → okI n (I i)))
      case atStart => exact ⟨0, by go_num, by omega, by omega, B0, fun i hi => absurd hi (Nat.not_lt_zero _)⟩
      case round =>
        clear B0
        obtain ⟨wq, rfl⟩ : ∃ wq : World, wq = wr := ⟨_, rfl⟩
        obtain ⟨k, rfl, hk2, hg2, B, OK⟩ := hrel
        by_cases hlt : k < m
        · have hltm : (k : Int) < (m : Int) := by omega
          obtain ⟨b, off, rfl, hb, hc⟩ := (HQ.out.below B.out) (by omega)
          have c0 : wq.cell? ⟨b, off + k * 4, none⟩ = some (.int .i64 (I k).at_) := hc k hlt 0 (by decide)
          have c1 : wq.cell? ⟨b, off + k * 4 + 1, none⟩ = some (.int .i64 (I k).sp) := hc k hlt 1 (by decide)
          have c2 : wq.cell? ⟨b, off + k * 4 + 2, none⟩ = some (.int .i64 (I k).mn) := hc k hlt 2 (by decide)
          have c3 : wq.cell? ⟨b, off + k * 4 + 3, none⟩ = some (.int .i64 (I k).mx) := hc k hlt 3 (by decide)
          have BA : Hid (∀ o w', Below (wq.alloc o).heap.size (wq.alloc o) w' → Below w.heap.size w w') := fun o w' h => (B.out.alloc B.out.size o).trans (h.mono (by rw [World.size_alloc]; have := B.out.size; omega))
          have V := fun W => hide (gvi_any (I k) n W (by omega))
          have BAD : Hid (okIB n (I k) = false → er = 1) := fun h => NO.out fun ho => by
            have := (okIB_iff n _).2 (ho.2.2.2 k hlt)
            rw [h] at this
            exact Bool.noConfusion this
          have GOOD : Hid (okIB n (I k) = true → ∀ i, i < k + 1 → okI n (I i)) := fun h i hi => by
            rcases Nat.lt_or_ge i k with h1 | h1
            · exact OK.out i h1
            · rw [show i = k by omega]; exact (okIB_iff n _).1 h
          clear hc hb B OK
          generalize okIB n (I k) = v at *
          generalize hy0 : I k = y at *
          clear hy0
          obtain ⟨at_, sp, mn, mx⟩ := y
          dsimp only at *
          cases v
          · have e1 := BAD.out rfl
            clear BAD GOOD
            go_wp2_with fail
            refine (V _).out.mono ?_
            rintro e w' ⟨rfl, hB2⟩
            have B2 := hide (BA.out _ _ hB2)
            clear V hB2 BA
            go_wp2_with fail
            go_ret
            exact ⟨by first | exact ret_int e1.symm | exact ret_int rfl, B2.out⟩
          · have GG := hide (GOOD.out rfl)
            clear BAD GOOD
            go_wp2_with fail
            refine (V _).out.mono ?_
            rintro e w' ⟨rfl, hB2⟩
            have B2 := hide (BA.out _ _ hB2)
            clear V hB2 BA
            go_wp2_with fail
            go_roundg (m - k)
            case measure => omega
            case rel => exact ⟨k + 1, by go_num, by omega, by omega, B2, GG⟩
        · have hltm : ¬ (k : Int) < (m : Int) := by omega
          obtain rfl : m = k := by omega
          have e1 : er = 0 := YES.out ⟨HA.out.1, HA.out.2, OKT.out, OK.out⟩
          go_wp2_with fail
          go_ret
          exact ⟨by first | exact ret_int e1.symm | exact ret_int rfl, B.out⟩
end Go.Proofs.Ytdoenkngmgclmaa
/- What the program of package grid computes on the way to the demands and the sizes, and that it is what the chapter says; no premise on the program. -/
namespace Go.Proofs.Ytdoenkngmgclmaa
open Go.RowKit Go.Sort
set_option linter.unusedVariables false
set_option linter.unusedSimpArgs false

/-! ### An item takes a track with a fraction, else one sized by content -/
def hasF (t : Nat → Tk) (a : Nat) : Nat → Bool
  | 0 => false
  | j + 1 => hasF t a j || decide ((t (a + j)).kd = 2)
def kiG (t : Nat → Tk) (a p : Nat) : Int := if hasF t a p then 2 else 1
/-- Those that do not grow. -/
def zW (t : Nat → Tk) (a : Nat) (ki : Int) (j : Nat) : Bool := !decide ((t (a + j)).kd = ki)
/-- The kind that the chapter finds, where there is one. -/
theorem kd_hasF (t : Nat → Tk) (a : Nat) : ∀ p, (hasF t a p = true → kdG t a p = 2) ∧ (hasF t a p = false → kdG t a p = -1 ∨ kdG t a p = 1) ∧ (kdG t a p = -1 → ∀ j, j < p → (t (a + j)).kd ≠ 1 ∧ (t (a + j)).kd ≠ 2)
  | 0 => ⟨fun h => Bool.noConfusion h, fun _ => Or.inl rfl, fun _ j h => absurd h (Nat.not_lt_zero _)⟩
  | p + 1 => by
    obtain ⟨i1, i2, i3⟩ := kd_hasF t a p
    simp only [hasF, kdG]
    by_cases h : (t (a + p)).kd = 2
    · rw [if_pos (Or.inl h), decide_eq_true h, Bool.or_true]
      exact ⟨fun _ => h, fun q => Bool.noConfusion q, fun q => by omega⟩
    · rw [decide_eq_false h, Bool.or_false]
      by_cases g : (t (a + p)).kd = 1 ∧ kdG t a p < 0
      · rw [if_pos (Or.inr g)]
        refine ⟨fun q => ?_, fun _ => Or.inr g.1, fun q => by omega⟩
        have := i1 q; omega
      · rw [if_neg (fun q => q.elim h g)]
        refine ⟨i1, i2, fun q j hj => ?_⟩
        by_cases hjp : j = p
        · subst hjp
          exact ⟨fun q2 => g ⟨q2, by omega⟩, h⟩
        · exact i3 q j (by omega)
theorem shr_none {f : Nat → Int} {n i : Nat} (hi : i < n) (hg : Good f n) : shr 0 f n i = 0 := by
  have := shr_bd (T := 0) hg (Int.le_refl _) hi
  omega
theorem shr_congr {T : Int} {f g : Nat → Int} {n : Nat} (hf : Good f n) (e : ∀ i, i < n → f i = g i) {i : Nat} (hi : i < n) : shr T f n i = shr T g n i := by
  have hP := shr_parts (T := T) hf
  refine shr_of (f := g) ?_ hi
  have es : sumF f n = sumF g n := sum_congr n e
  rcases hP with ⟨e0, h0⟩ | ⟨hp, h, gg, O, h1⟩
  · exact Or.inl ⟨by rw [← es]; exact e0, h0⟩
  · have eq : ∀ i, i < n → quoF T (sumF f n) f i = quoF T (sumF g n) g i := fun i hi => by unfold quoF; rw [e i hi, es]
    have er : ∀ i, i < n → remF T (sumF f n) f i = remF T (sumF g n) g i := fun i hi => by unfold remF; rw [e i hi, es]
    refine Or.inr ⟨by rw [← es]; exact hp, h, gg, ⟨O.gh, O.hg, O.out, fun i k hik hk => ?_⟩, fun i hi => ?_⟩
    · have a := O.ord i k hik hk
      have e1 := er _ (O.h_lt (show i < n by omega))
      have e2 := er _ (O.h_lt hk)
      unfold before at a ⊢
      rw [← e1, ← e2]
      exact a
    · rw [h1 i hi]
      unfold partF
      rw [eq i hi, sum_congr n eq]
theorem rk_sameP {z : Nat → Bool} {a : Nat} : ∀ {b : Nat}, a ≤ b → (∀ i, a ≤ i → i < b → z i = true) → rk z b = rk z a
  | 0, h, _ => by rw [Nat.le_zero.mp h]
  | b + 1, h, hz => by
    rcases Nat.lt_or_ge b a with h1 | h1
    · rw [show a = b + 1 by omega]
    · simp only [rk, hz b h1 (by omega), if_true, Nat.add_zero]
      exact rk_sameP h1 fun i h2 h3 => hz i h2 (by omega)
theorem pack_ones {z : Nat → Bool} {n k : Nat} (hk : k < rk z n) : pack z ones n k = ones k := pack_all (p := fun v => v = 1) (fun _ _ _ => rfl) hk
/-- What the program makes of the sizes. -/
noncomputable def widF (t : Nat → Tk) (gap want : Int) (x : It) (s : Nat → Int) (i : Nat) : Int :=
  if aG x ≤ i ∧ i < aG x + pG x then s i + shr (max (want - totG gap (fun j => s (aG x + j)) (pG x)) 0) (zro (zW t (aG x) (kiG t (aG x) (pG x))) ones) (pG x) (i - aG x) else s i
theorem zro_ones_good (z : Nat → Bool) (n : Nat) : Good (zro z ones) n := fun k hk => by
  unfold zro ones
  split <;> omega
section
variable {t : Nat → Tk} {gap : Int} {I : Nat → It} {n m : Nat}
theorem dG_tot {want : Int} {x : It} {s : Nat → Int} (hx : okI n x) : want - totG gap (fun j => s (aG x + j)) (pG x) = dG gap want x s := by
  have := aG_eq hx
  unfold dG totG
  by_cases h : 1 < pG x
  · rw [if_pos h]; omega
  · rw [if_neg h, show (pG x : Int) - 1 = 0 by omega, Int.mul_zero]; omega
theorem wid_out {want : Int} {x : It} {s : Nat → Int} {i : Nat} (h : ¬ (aG x ≤ i ∧ i < aG x + pG x)) : widF t gap want x s i = s i := by
  unfold widF
  rw [if_neg h]
theorem zG_out {x : It} {kd : Int} {i : Nat} (h : ¬ (aG x ≤ i ∧ i < aG x + pG x)) : zG t x kd i = true := by
  unfold zG
  by_cases h1 : aG x ≤ i
  · rw [decide_eq_false (show ¬ i < aG x + pG x by omega), Bool.and_false]; rfl
  · rw [decide_eq_false h1]; rfl
theorem zG_in {x : It} {kd : Int} {j : Nat} (h : j < pG x) : zG t x kd (aG x + j) = zW t (aG x) kd j := by
  unfold zG zW
  rw [decide_eq_true (show aG x ≤ aG x + j by omega), decide_eq_true (show aG x + j < aG x + pG x by omega)]
  rfl
theorem rk_shift {x : It} {kd : Int} : ∀ {j : Nat}, j ≤ pG x → rk (zG t x kd) (aG x + j) = rk (zW t (aG x) kd) j
  | 0, _ => rk_all fun i hi => zG_out (by omega)
  | j + 1, h => by
    show rk (zG t x kd) (aG x + j) + (if zG t x kd (aG x + j) then 0 else 1) = rk (zW t (aG x) kd) j + (if zW t (aG x) kd j then 0 else 1)
    rw [rk_shift (by omega), zG_in (by omega)]
theorem wid_spr {want : Int} {x : It} {s : Nat → Int} (hx : okI n x) {i : Nat} (hi : i < n) : widF t gap want x s i = sprG t gap want x n s i := by
  have ha := aG_eq hx
  by_cases hr : aG x ≤ i ∧ i < aG x + pG x
  case neg =>
    rw [wid_out hr]
    unfold sprG
    rw [if_neg (fun h => by rw [zG_out hr] at h; exact Bool.noConfusion h.2.2)]
  obtain ⟨j, rfl⟩ : ∃ j, i = aG x + j := ⟨i - aG x, by omega⟩
  have hj : j < pG x := by omega
  unfold widF
  rw [if_pos hr, dG_tot hx, show aG x + j - aG x = j by omega]
  by_cases hd : 0 < dG gap want x s
  case neg =>
    rw [show max (dG gap want x s) 0 = 0 by omega, shr_none hj (zro_ones_good _ _)]
    unfold sprG
    rw [if_neg (fun h => hd h.1)]
    omega
  rw [show max (dG gap want x s) 0 = dG gap want x s by omega, shr_zero (zro_ones_good _ _) hj]
  obtain ⟨k1, k2, k3⟩ := kd_hasF t (aG x) (pG x)
  by_cases hm : kdG t (aG x) (pG x) = -1
  · have hf : hasF t (aG x) (pG x) = false := by
      cases hf : hasF t (aG x) (pG x) with
      | false => rfl
      | true => have := k1 hf; omega
    have hz : zW t (aG x) (kiG t (aG x) (pG x)) j = true := by
      unfold zW kiG
      rw [hf]
      have := (k3 hm j hj).1
      simp [this]
    rw [hz, if_pos rfl]
    unfold sprG
    rw [if_neg (fun h => by rw [hm] at h; omega)]
    omega
  · have hk : kdG t (aG x) (pG x) = kiG t (aG x) (pG x) := by
      unfold kiG
      cases hf : hasF t (aG x) (pG x) with
      | true => rw [k1 hf]; rfl
      | false =>
        rcases k2 hf with h | h
        · exact absurd h hm
        · rw [h]; rfl
    have hp : 0 ≤ kiG t (aG x) (pG x) := by unfold kiG; split <;> omega
    have e0 := zG_in (t := t) (kd := kiG t (aG x) (pG x)) hj
    cases hz : zW t (aG x) (kiG t (aG x) (pG x)) j with
    | true =>
      rw [if_pos rfl]
      unfold sprG
      rw [hk, e0, hz, if_neg (fun h => Bool.noConfusion h.2.2)]
      omega
    | false =>
      rw [if_neg Bool.false_ne_true]
      unfold sprG
      rw [hk, e0, hz, if_pos ⟨hd, hp, rfl⟩]
      have e1 : rk (zG t x (kiG t (aG x) (pG x))) n = rk (zW t (aG x) (kiG t (aG x) (pG x))) (pG x) := by
        rw [rk_sameP (a := aG x + pG x) ha.2.2.1 fun i h1 h2 => zG_out (by omega), rk_shift (Nat.le_refl _)]
      rw [e1, rk_shift (Nat.le_of_lt hj)]
      congr 1
      refine shr_congr (f := pack (zW t (aG x) (kiG t (aG x) (pG x))) ones (pG x)) (g := ones) (fun k hk => ?_) (fun k hk => pack_ones hk) (rk_lt hj hz)
      rw [pack_ones hk]; unfold ones; omega
/-- An item with one track has its size already. -/
theorem wid_one {want : Int} {x : It} {s : Nat → Int} (hx : okI n x) (h1 : x.sp = 1) (hb : (t (aG x)).kd ≠ 0 → want ≤ s (aG x)) (ht : okT (t (aG x))) (i : Nat) : widF t gap want x s i = s i := by
  have ha := aG_eq hx
  have hp : pG x = 1 := by omega
  by_cases hr : aG x ≤ i ∧ i < aG x + pG x
  case neg => exact wid_out hr
  obtain rfl : i = aG x := by omega
  unfold widF
  rw [if_pos hr, hp, show aG x - aG x = 0 by omega]
  by_cases h0 : (t (aG x)).kd = 0
  · rw [shr_zero (zro_ones_good _ _) (by omega)]
    have hz : zW t (aG x) (kiG t (aG x) 1) 0 = true := by
      unfold zW kiG
      rw [Nat.add_zero, h0]
      split <;> rfl
    rw [hz]
    simp
  · have hw := hb h0
    have e : totG gap (fun j => s (aG x + j)) 1 = s (aG x) := by simp [totG, sumF]
    rw [e, show max (want - s (aG x)) 0 = 0 by omega, shr_none (by omega) (zro_ones_good _ _)]
    omega
theorem wid_add {f s0 : Nat → Int} {k : Nat} (hx : okI n (I k)) (ht : ∀ i, i < n → okT (t i)) (hb : (I k).sp = 1 → (t (aG (I k))).kd ≠ 0 → f k ≤ addG t gap I n f s0 k (aG (I k))) {i : Nat} (hi : i < n) :
    widF t gap (f k) (I k) (addG t gap I n f s0 k) i = addG t gap I n f s0 (k + 1) i := by
  have ha := aG_eq hx
  show _ = (if 1 < (I k).sp then sprG t gap (f k) (I k) n (addG t gap I n f s0 k) else addG t gap I n f s0 k) i
  by_cases h : 1 < (I k).sp
  · rw [if_pos h]; exact wid_spr hx hi
  · rw [if_neg h]
    have h1 : (I k).sp = 1 := by have := hx.2.2.2.1; omega
    exact wid_one hx h1 (hb h1) (ht _ (by omega)) i
theorem spr_tight {want : Int} {x : It} {s : Nat → Int} (hx : okI n x) (hg : 0 ≤ gap) (hw : want ≤ 1048576) (hs : ∀ i, i < n → 0 ≤ s i ∧ s i ≤ 1048576) {i : Nat} (hi : i < n) :
    s i ≤ sprG t gap want x n s i ∧ sprG t gap want x n s i ≤ 1048576 := by
  have ha := aG_eq hx
  have b := hs i hi
  unfold sprG
  split
  · rename_i h
    obtain ⟨h1, h2, h3⟩ := h
    have h4 := shr_bd (T := dG gap want x s) (ones_good (rk (zG t x (kdG t (aG x) (pG x))) n)) (by omega) (rk_lt hi h3)
    have hr : aG x ≤ i ∧ i < aG x + pG x := Classical.byContradiction fun hn => by rw [zG_out hn] at h3; exact Bool.noConfusion h3
    have h5 := le_sum (f := fun j => s (aG x + j)) (pG x) (fun j hj => (hs _ (by omega)).1) (i - aG x) (by omega)
    have h6 : s (aG x + (i - aG x)) = s i := by rw [show aG x + (i - aG x) = i by omega]
    have c := Int.mul_nonneg hg (show 0 ≤ (pG x : Int) - 1 by omega)
    have h7 : dG gap want x s ≤ want - s i := by
      unfold dG
      simp only [h6] at h5
      omega
    omega
  · omega
theorem add_tight {f s0 : Nat → Int} (hg : 0 ≤ gap) (hI : ∀ k, k < m → okI n (I k)) (hf : ∀ k, k < m → f k ≤ 1048576) (h0 : ∀ i, i < n → 0 ≤ s0 i ∧ s0 i ≤ 1048576) : ∀ k, k ≤ m → ∀ i, i < n → s0 i ≤ addG t gap I n f s0 k i ∧ addG t gap I n f s0 k i ≤ 1048576
  | 0, _, i, hi => by have := h0 i hi; simp only [addG]; omega
  | k + 1, hk, i, hi => by
    have ih := add_tight hg hI hf h0 k (by omega)
    have b := ih i hi
    simp only [addG]
    split
    · have := spr_tight (t := t) (want := f k) (s := addG t gap I n f s0 k) (hI k (by omega)) hg (hf k (by omega)) (fun i hi => by have := ih i hi; have := h0 i hi; omega) hi
      omega
    · omega
theorem lq_tight (hg : 0 ≤ gap) (ht : ∀ i, i < n → okT (t i)) (hI : ∀ k, k < m → okI n (I k)) {i : Nat} (hi : i < n) : 0 ≤ lqF t gap I n m i ∧ lqF t gap I n m i ≤ 1048576 ∧ ls0 t I m i ≤ lqF t gap I n m i := by
  have := add_tight (t := t) (gap := gap) (f := fun k => (I k).mn) (s0 := ls0 t I m) hg hI (fun k hk => (hI k hk).1.2) (fun i hi => ls0_bd ht hI hi) m (Nat.le_refl _) i hi
  have := ls0_bd ht hI hi
  unfold lqF
  omega
theorem mq_tight (hg : 0 ≤ gap) (ht : ∀ i, i < n → okT (t i)) (hI : ∀ k, k < m → okI n (I k)) {i : Nat} (hi : i < n) : lqF t gap I n m i ≤ mqF t gap I n m i ∧ mqF t gap I n m i ≤ 1048576 := by
  have := add_tight (t := t) (gap := gap) (f := fun k => (I k).mx) (s0 := ms0 t I m) hg hI (fun k hk => (hI k hk).2.1.2) (fun i hi => ms0_bd ht hI hi) m (Nat.le_refl _) i hi
  have := lq_tight hg ht hI hi
  unfold mqF
  omega
/-- The items with one track in it have given the track their sizes at first. -/
theorem one_ls {k : Nat} (hk : k < m) (hx : okI n (I k)) (h1 : (I k).sp = 1) (h0 : (t (aG (I k))).kd ≠ 0) : (I k).mn ≤ ls0 t I m (aG (I k)) := by
  have ha := aG_eq hx
  unfold ls0
  rw [if_neg h0]
  refine mxK_ge (P := oneB I (aG (I k))) (f := fun k => (I k).mn) hk ?_
  unfold oneB
  rw [decide_eq_true h1, decide_eq_true (show (I k).at_ = (aG (I k) : Int) from ha.1.symm)]
  rfl
theorem one_ms {k : Nat} (hk : k < m) (hx : okI n (I k)) (h1 : (I k).sp = 1) (h0 : (t (aG (I k))).kd ≠ 0) : (I k).mx ≤ ms0 t I m (aG (I k)) := by
  have ha := aG_eq hx
  unfold ms0
  rw [if_neg h0]
  have this : (I k).mx ≤ mxK (oneB I (aG (I k))) (fun k => (I k).mx) m := mxK_ge (P := oneB I (aG (I k))) (f := fun k => (I k).mx) hk (by
    unfold oneB
    rw [decide_eq_true h1, decide_eq_true (show (I k).at_ = (aG (I k) : Int) from ha.1.symm)]
    rfl)
  omega
theorem mxK_max (P : Nat → Bool) (f g : Nat → Int) : ∀ k, mxK P (fun k => max (f k) (g k)) k = max (mxK P g k) (mxK P f k)
  | 0 => by simp [mxK]
  | k + 1 => by
    have ih := mxK_max P f g k
    simp only [mxK]
    split <;> omega

/-! ### The sizes before the fractions -/
noncomputable def grG (t : Nat → Tk) (gap : Int) (I : Nat → It) (n m : Nat) : Nat → Int := zro (zA t) (waG t gap I n m)
noncomputable def frG (av : Int) (t : Nat → Tk) (gap : Int) (I : Nat → It) (n m : Nat) : Int := max (spcF av gap n - sumF (lqF t gap I n m) n) 0
theorem fr_tot (av : Int) : spcF av gap n - sumF (lqF t gap I n m) n = av - totG gap (lqF t gap I n m) n := by
  rw [← gs_spc]
  unfold totG gsF
  by_cases h : 1 < n
  · rw [if_pos h, show max ((n : Int) - 1) 0 = (n : Int) - 1 by omega]; omega
  · rw [if_neg h, show max ((n : Int) - 1) 0 = 0 by omega, Int.mul_zero]; omega
theorem gs_bd' (hg : 0 ≤ gap ∧ gap ≤ 1048576) : 0 ≤ gsF gap n := by
  unfold gsF
  exact Int.mul_nonneg hg.1 (by omega)
theorem wa_tight (hg : 0 ≤ gap) (ht : ∀ i, i < n → okT (t i)) (hI : ∀ k, k < m → okI n (I k)) {i : Nat} (hi : i < n) : 0 ≤ waG t gap I n m i ∧ waG t gap I n m i ≤ 1048576 := by
  have a := lq_tight (m := m) hg ht hI hi
  have b := mq_tight (m := m) hg ht hI hi
  unfold waG
  omega
theorem gr_bd (hg : 0 ≤ gap) (ht : ∀ i, i < n → okT (t i)) (hI : ∀ k, k < m → okI n (I k)) {i : Nat} (hi : i < n) : 0 ≤ grG t gap I n m i ∧ grG t gap I n m i ≤ 1048576 := by
  have a := wa_tight (m := m) hg ht hI hi
  unfold grG zro
  split <;> omega
theorem gr_good (hg : 0 ≤ gap) (ht : ∀ i, i < n → okT (t i)) (hI : ∀ k, k < m → okI n (I k)) : Good (grG t gap I n m) n := fun i hi => by
  have := gr_bd (m := m) hg ht hI hi
  omega
theorem s1_less {av : Int} (hg : 0 ≤ gap) (ht : ∀ i, i < n → okT (t i)) (hI : ∀ k, k < m → okI n (I k)) (h : frG av t gap I n m < sumF (grG t gap I n m) n) {i : Nat} (hi : i < n) :
    lqF t gap I n m i + shr (frG av t gap I n m) (grG t gap I n m) n i = s1G av t gap I n m i := by
  have hgg := gr_good (m := m) hg ht hI
  unfold frG at h ⊢
  rw [fr_tot] at h ⊢
  have es : sumF (pack (zA t) (waG t gap I n m) n) (rk (zA t) n) = sumF (grG t gap I n m) n := sum_pack n
  unfold s1G
  by_cases h0 : 0 < av - totG gap (lqF t gap I n m) n
  · rw [show max (av - totG gap (lqF t gap I n m) n) 0 = av - totG gap (lqF t gap I n m) n by omega] at h ⊢
    unfold grG at hgg ⊢
    rw [shr_zero hgg hi]
    cases hz : zA t i with
    | true => rw [if_pos rfl, if_neg (fun q => Bool.noConfusion q.2)]; omega
    | false =>
      rw [if_neg Bool.false_ne_true, if_pos ⟨h0, rfl⟩, es]
      unfold grG at h ⊢
      rw [if_pos h]
  · rw [show max (av - totG gap (lqF t gap I n m) n) 0 = 0 by omega, shr_none hi hgg, if_neg (fun q => h0 q.1)]
    omega
theorem s1_all {av : Int} (hg : 0 ≤ gap) (ht : ∀ i, i < n → okT (t i)) (hI : ∀ k, k < m → okI n (I k)) (h : ¬ frG av t gap I n m < sumF (grG t gap I n m) n) {i : Nat} (hi : i < n) :
    lqF t gap I n m i + grG t gap I n m i = s1G av t gap I n m i := by
  have hgg := gr_good (m := m) hg ht hI
  unfold frG at h
  rw [fr_tot] at h
  have es : sumF (pack (zA t) (waG t gap I n m) n) (rk (zA t) n) = sumF (grG t gap I n m) n := sum_pack n
  unfold s1G
  by_cases h0 : 0 < av - totG gap (lqF t gap I n m) n
  · rw [show max (av - totG gap (lqF t gap I n m) n) 0 = av - totG gap (lqF t gap I n m) n by omega] at h
    cases hz : zA t i with
    | true => rw [if_neg (fun q => Bool.noConfusion q.2)]; unfold grG; rw [zro_yes hz]; omega
    | false =>
      rw [if_pos ⟨h0, rfl⟩, es, if_neg h]
      unfold grG; rw [zro_no hz]
  · have hs : sumF (grG t gap I n m) n = 0 := by
      have := sum_nonneg (f := grG t gap I n m) n fun i hi => (hgg i hi).1
      omega
    rw [sum_le_zero (fun i hi => (hgg i hi).1) hs i hi, if_neg (fun q => h0 q.1)]
    omega
theorem s1_bd {av : Int} (ha : 0 ≤ av ∧ av ≤ 1048576) (hg : 0 ≤ gap ∧ gap ≤ 1048576) (ht : ∀ i, i < n → okT (t i)) (hI : ∀ k, k < m → okI n (I k)) {i : Nat} (hi : i < n) : 0 ≤ s1G av t gap I n m i ∧ s1G av t gap I n m i ≤ 4194304 := by
  have a := lq_tight (m := m) hg.1 ht hI hi
  have w := gr_bd (m := m) hg.1 ht hI hi
  by_cases h : frG av t gap I n m < sumF (grG t gap I n m) n
  · rw [← s1_less hg.1 ht hI h hi]
    have hfr : 0 ≤ frG av t gap I n m := by unfold frG; omega
    have hf2 : frG av t gap I n m ≤ 1048576 := by
      have g := gs_bd' hg (n := n)
      have b := sum_nonneg (f := lqF t gap I n m) n fun i hi => (lq_tight (m := m) hg.1 ht hI hi).1
      unfold frG
      rw [← gs_spc]
      omega
    have := shr_bd (T := frG av t gap I n m) (gr_good (m := m) hg.1 ht hI) hfr hi
    omega
  · rw [← s1_all hg.1 ht hI h hi]
    omega
end
end Go.Proofs.Ytdoenkngmgclmaa
/- Whether a track of a list has a fraction, and the weights of the tracks that grow; no condition but on the lengths of lists. -/
namespace Go.Proofs.Ytdoenkngmgclmaa
open Go.RowKit Go.Sort
set_option linter.unusedVariables false
set_option linter.unusedSimpArgs false

theorem hasF_hit {t : Nat → Tk} {a : Nat} : ∀ {n k : Nat}, k < n → (t (a + k)).kd = 2 → hasF t a n = true
  | n + 1, k, hk, h => by
    rw [hasF]
    by_cases e : k = n
    · subst e; rw [decide_eq_true h, Bool.or_true]
    · rw [hasF_hit (show k < n by omega) h]; rfl
abbrev isFr : Value := .func (.func 48) #[] #[]
set_option maxHeartbeats 2000000 in
theorem gidx_any (p : Option Addr) (n c a : Nat) (t : Nat → Tk) (w : World) (hr : SRow w p n 2 (trC fun j => t (a + j))) (hn : n ≤ 100000) :
    Calls Try.prog 75 #[.slice p n c, isFr] w fun e w' => ∃ r : Int, e = .returned (.int .i64 r) ∧ (decide (0 ≤ r) = hasF t a n) ∧ Below w.heap.size w w' := by
  have HR := hide hr
  clear hr
  go_enter Try.func75, Try.ntmps75
  go_wp2_with fail
  go_loopg [5, 8] (n + 1) (fun g1 _ vk wr => ∃ k : Nat, vk = .int .i64 (k : Int) ∧ k ≤ n ∧ n - k < g1 ∧ Hid (Below w.heap.size w wr) ∧ Hid (hasF t a k = false))
  case atStart => exact ⟨0, by go_num, by omega, by omega, Below.refl _ _, rfl⟩
  case round =>
    obtain ⟨wo, rfl⟩ : ∃ wo : World, wo = wr := ⟨_, rfl⟩
    obtain ⟨k, rfl, hk, hg, B, NF⟩ := hrel
    by_cases hlt : k < n
    · have hltz : (k : Int) < (n : Int) := by omega
      obtain ⟨b, off, rfl, hb, hc⟩ := (HR.out.below B.out) (by omega)
      have c0 : wo.cell? ⟨b, off + k * 2, none⟩ = some (.int .i64 (t (a + k)).kd) := hc k hlt 0 (by decide)
      have c1 : wo.cell? ⟨b, off + k * 2 + 1, none⟩ = some (.int .i64 (t (a + k)).nn) := hc k hlt 1 (by decide)
      have V := fun W => hide (gfrac_any (t (a + k)) W)
      have YES : Hid ((t (a + k)).kd = 2 → hasF t a n = true) := fun h => hasF_hit hlt h
      have NO : Hid (¬ (t (a + k)).kd = 2 → hasF t a (k + 1) = false) := fun h => by show (hasF t a k || decide ((t (a + k)).kd = 2)) = false; rw [NF.out, decide_eq_false h]; rfl
      clear hc hb NF
      generalize hy0 : t (a + k) = y at *
      clear hy0
      obtain ⟨kd, nn⟩ := y
      dsimp only at *
      by_cases h2 : kd = 2
      · have e9 := hide (YES.out h2)
        rw [decide_eq_true h2] at V
        clear YES NO h2
        go_wp2_with fail
        refine (V _).out.mono ?_
        rintro e w' ⟨rfl, hB⟩
        have B2 : Hid (Below w.heap.size w w') := B.out.trans (hB.mono B.out.size)
        clear V hB B
        go_wp2_with fail
        go_ret
        exact ⟨(k : Int), rfl, by rw [e9.out, decide_eq_true (show (0 : Int) ≤ k by omega)], B2.out⟩
      · have e9 := hide (NO.out h2)
        rw [decide_eq_false h2] at V
        clear YES NO h2
        go_wp2_with fail
        refine (V _).out.mono ?_
        rintro e w' ⟨rfl, hB⟩
        have B2 : Hid (Below w.heap.size w w') := B.out.trans (hB.mono B.out.size)
        clear V hB B
        go_wp2_with fail
        go_roundg (n - k)
        case measure => omega
        case rel => exact ⟨k + 1, by go_num, by omega, by omega, B2, e9⟩
    · have hltz : ¬ (k : Int) < (n : Int) := by omega
      obtain rfl : n = k := by omega
      go_wp2_with fail
      go_ret
      exact ⟨-1, rfl, by rw [NF.out]; rfl, B.out⟩
theorem gcon_any (p : Option Addr) (n c a : Nat) (t : Nat → Tk) (w : World) (hr : SRow w p n 2 (trC fun j => t (a + j))) (hn : n ≤ 100000) :
    Calls Try.prog 62 #[.slice p n c, isFr] w fun e w' => e = .returned (.bool (hasF t a n)) ∧ Below w.heap.size w w' := by
  have K := hide (gidx_any p n c a t w hr hn)
  clear hr
  go_enter Try.func62, Try.ntmps62
  go_wp2_with fail
  refine K.out.mono ?_
  rintro e w' ⟨r, rfl, h, hB⟩
  have hB := hide hB
  have h := hide h
  clear K
  by_cases h0 : 0 ≤ r
  · go_wp2_with fail
    go_ret
    exact ⟨ret_bool (by rw [← h.out]; first | done | simp [h0]), hB.out⟩
  · go_wp2_with fail
    go_ret
    exact ⟨ret_bool (by rw [← h.out]; first | done | simp [h0]), hB.out⟩
set_option maxHeartbeats 4000000 in
set_option maxRecDepth 100000 in
theorem gro_2 (p : Option Addr) (n c a : Nat) (t : Nat → Tk) (w : World) (hr : SRow w p n 2 (trC fun j => t (a + j))) (hn : n ≤ 24) (hf : hasF t a n = true) :
    Calls Try.prog 53 #[.slice p n c] w fun e w' => ∃ b, e = .returned (.slice (some ⟨b, 0, none⟩) n n) ∧ w.heap.size ≤ b ∧ IRow w' b n (zro (zW t a 2) ones) ∧ Below w.heap.size w w' := by
  have K := hide (gcon_any p n c a t w hr (by omega))
  rw [hf] at K
  have HR := hide hr
  have hmk : ∀ W : World, (Instr.makeSlice 22 (.int .i64 (n : Int)) (.int .i64 (n : Int))).run Try.prog W = .ok (.slice (some ⟨W.heap.size, 0, none⟩) n n) (W.alloc (.cells (ints n (fun _ => 0)) 3)) := make_ints n (by omega)
  clear hr hf
  go_enter Try.func53, Try.ntmps53
  go_wp2_with fail
  refine K.out.mono ?_
  rintro e w1 ⟨rfl, hB⟩
  have B1 : Hid (Below w.heap.size w (w1.alloc (.cells (ints n fun _ => 0) 3))) := hB.alloc hB.size _
  have R1 : Hid (IRow (w1.alloc (.cells (ints n fun _ => 0) 3)) w1.heap.size n (fun j => if j < 0 then zro (zW t a 2) ones j else 0)) := (IRow.new w1 n (fun _ => 0)).congr fun j hj => by simp
  have NE : Hid (w.heap.size ≤ w1.heap.size) := hB.size
  clear hB K
  go_wp2_with fail
  clear hmk
  generalize w1.alloc (.cells (ints n fun _ => 0) 3) = w2 at *
  generalize w1.heap.size = rb at *
  go_loopg [14] (n + 1) (fun g1 vk wr => ∃ k : Nat, vk = .int .i64 (k : Int) ∧ k ≤ n ∧ n - k < g1 ∧ Hid (Below w.heap.size w wr) ∧ Hid (IRow wr rb n (fun j => if j < k then zro (zW t a 2) ones j else 0)))
  case atStart => exact ⟨0, by go_num, by omega, by omega, B1, R1⟩
  case round =>
    clear B1 R1
    obtain ⟨wo, rfl⟩ : ∃ wo : World, wo = wr := ⟨_, rfl⟩
    obtain ⟨k, rfl, hk, hg, B, R⟩ := hrel
    by_cases hlt : k < n
    · have hltz : (k : Int) < (n : Int) := by omega
      obtain ⟨b, off, rfl, hb, hc⟩ := (HR.out.below B.out) (by omega)
      have c0 : wo.cell? ⟨b, off + k * 2, none⟩ = some (.int .i64 (t (a + k)).kd) := hc k hlt 0 (by decide)
      have c1 : wo.cell? ⟨b, off + k * 2 + 1, none⟩ = some (.int .i64 (t (a + k)).nn) := hc k hlt 1 (by decide)
      have YES : Hid ((t (a + k)).kd = 2 → zro (zW t a 2) ones k = 1) := fun h => by rw [zro_no (by unfold zW; rw [decide_eq_true h]; rfl)]; rfl
      have NO : Hid (¬ (t (a + k)).kd = 2 → zro (zW t a 2) ones k = 0) := fun h => by rw [zro_yes (by unfold zW; rw [decide_eq_false h]; rfl)]
      have BA : Hid (∀ o, Below w.heap.size w (wo.alloc o)) := fun o => B.out.alloc B.out.size o
      have RA : Hid (∀ o, IRow (wo.alloc o) rb n (fun j => if j < k then zro (zW t a 2) ones j else 0)) := fun o => R.out.alloc o
      have NX : Hid (rb ≠ wo.heap.size) := Nat.ne_of_lt R.out.lt
      clear hc hb B R
      generalize hy0 : t (a + k) = y at *
      clear hy0
      obtain ⟨kd, nn⟩ := y
      dsimp only at *
      have BB := hide (BA.out (.cells #[.int .i64 kd, .int .i64 nn] 42))
      have RR := hide (RA.out (.cells #[.int .i64 kd, .int .i64 nn] 42))
      have TB : Hid (Blk (wo.alloc (.cells #[.int .i64 kd, .int .i64 nn] 42)) wo.heap.size 42 [.int .i64 kd, .int .i64 nn]) := Blk.new rfl
      clear BA RA
      by_cases h2 : kd = 2
      · have d1 : (kd == 2) = true := by simpa using h2
        have e9 := YES.out h2
        have cz := RR.out.cell hlt
        simp only [Nat.lt_irrefl, if_false] at cz
        have fz := RR.out.frozen k
        have NB : Hid (Below w.heap.size w ((wo.alloc (.cells #[.int .i64 kd, .int .i64 nn] 42)).setCell ⟨rb, k, none⟩ (.int .i64 1))) := BB.out.setCell NE.out _
        have NR : Hid (IRow ((wo.alloc (.cells #[.int .i64 kd, .int .i64 nn] 42)).setCell ⟨rb, k, none⟩ (.int .i64 1)) rb n (fun j => if j < k + 1 then zro (zW t a 2) ones j else 0)) := (RR.out.set_ k 1).congr fun j hj => by
          by_cases h1 : j = k
          · subst h1; rw [if_pos rfl, if_pos (by omega), e9]
          · by_cases h3 : j < k
            · rw [if_neg h1, if_pos h3, if_pos (by omega)]
            · rw [if_neg h1, if_neg h3, if_neg (by omega)]
        have t0 := TB.out.cell 0 rfl
        clear YES NO h2 e9 BB RR TB
        go_wp2_with fail
        go_roundg (n - k)
        case measure => omega
        case rel => exact ⟨k + 1, by go_num, by omega, by omega, NB, NR⟩
      · have d1 : (kd == 2) = false := by simpa using h2
        have e9 := NO.out h2
        have NR : Hid (IRow (wo.alloc (.cells #[.int .i64 kd, .int .i64 nn] 42)) rb n (fun j => if j < k + 1 then zro (zW t a 2) ones j else 0)) := RR.out.congr fun j hj => by
          by_cases h1 : j = k
          · subst h1; rw [if_neg (Nat.lt_irrefl _), if_pos (by omega), e9]
          · by_cases h3 : j < k
            · rw [if_pos h3, if_pos (by omega)]
            · rw [if_neg h3, if_neg (by omega)]
        have t0 := TB.out.cell 0 rfl
        clear YES NO h2 e9 RR TB
        go_wp2_with fail
        go_roundg (n - k)
        case measure => omega
        case rel => exact ⟨k + 1, by go_num, by omega, by omega, BB, NR⟩
    · have hltz : ¬ (k : Int) < (n : Int) := by omega
      obtain rfl : n = k := by omega
      go_wp2_with fail
      go_ret
      exact ⟨rb, rfl, NE.out, R.out.congr fun j hj => by rw [if_pos hj], B.out⟩
set_option maxHeartbeats 4000000 in
set_option maxRecDepth 100000 in
theorem gro_1 (p : Option Addr) (n c a : Nat) (t : Nat → Tk) (w : World) (hr : SRow w p n 2 (trC fun j => t (a + j))) (hn : n ≤ 24) (hf : hasF t a n = false) :
    Calls Try.prog 53 #[.slice p n c] w fun e w' => ∃ b, e = .returned (.slice (some ⟨b, 0, none⟩) n n) ∧ w.heap.size ≤ b ∧ IRow w' b n (zro (zW t a 1) ones) ∧ Below w.heap.size w w' := by
  have K := hide (gcon_any p n c a t w hr (by omega))
  rw [hf] at K
  have HR := hide hr
  have hmk : ∀ W : World, (Instr.makeSlice 22 (.int .i64 (n : Int)) (.int .i64 (n : Int))).run Try.prog W = .ok (.slice (some ⟨W.heap.size, 0, none⟩) n n) (W.alloc (.cells (ints n (fun _ => 0)) 3)) := make_ints n (by omega)
  clear hr hf
  go_enter Try.func53, Try.ntmps53
  go_wp2_with fail
  refine K.out.mono ?_
  rintro e w1 ⟨rfl, hB⟩
  have B1 : Hid (Below w.heap.size w (w1.alloc (.cells (ints n fun _ => 0) 3))) := hB.alloc hB.size _
  have R1 : Hid (IRow (w1.alloc (.cells (ints n fun _ => 0) 3)) w1.heap.size n (fun j => if j < 0 then zro (zW t a 1) ones j else 0)) := (IRow.new w1 n (fun _ => 0)).congr fun j hj => by simp
  have NE : Hid (w.heap.size ≤ w1.heap.size) := hB.size
  clear hB K
  go_wp2_with fail
  clear hmk
  generalize w1.alloc (.cells (ints n fun _ => 0) 3) = w2 at *
  generalize w1.heap.size = rb at *
  go_loopg [14] (n + 1) (fun g1 vk wr => ∃ k : Nat, vk = .int .i64 (k : Int) ∧ k ≤ n ∧ n - k < g1 ∧ Hid (Below w.heap.size w wr) ∧ Hid (IRow wr rb n (fun j => if j < k then zro (zW t a 1) ones j else 0)))
  case atStart => exact ⟨0, by go_num, by omega, by omega, B1, R1⟩
  case round =>
    clear B1 R1
    obtain ⟨wo, rfl⟩ : ∃ wo : World, wo = wr := ⟨_, rfl⟩
    obtain ⟨k, rfl, hk, hg, B, R⟩ := hrel
    by_cases hlt : k < n
    · have hltz : (k : Int) < (n : Int) := by omega
      obtain ⟨b, off, rfl, hb, hc⟩ := (HR.out.below B.out) (by omega)
      have c0 : wo.cell? ⟨b, off + k * 2, none⟩ = some (.int .i64 (t (a + k)).kd) := hc k hlt 0 (by decide)
      have c1 : wo.cell? ⟨b, off + k * 2 + 1, none⟩ = some (.int .i64 (t (a + k)).nn) := hc k hlt 1 (by decide)
      have YES : Hid ((t (a + k)).kd = 1 → zro (zW t a 1) ones k = 1) := fun h => by rw [zro_no (by unfold zW; rw [decide_eq_true h]; rfl)]; rfl
      have NO : Hid (¬ (t (a + k)).kd = 1 → zro (zW t a 1) ones k = 0) := fun h => by rw [zro_yes (by unfold zW; rw [decide_eq_false h]; rfl)]
      have BA : Hid (∀ o, Below w.heap.size w (wo.alloc o)) := fun o => B.out.alloc B.out.size o
      have RA : Hid (∀ o, IRow (wo.alloc o) rb n (fun j => if j < k then zro (zW t a 1) ones j else 0)) := fun o => R.out.alloc o
      have NX : Hid (rb ≠ wo.heap.size) := Nat.ne_of_lt R.out.lt
      clear hc hb B R
      generalize hy0 : t (a + k) = y at *
      clear hy0
      obtain ⟨kd, nn⟩ := y
      dsimp only at *
      have BB := hide (BA.out (.cells #[.int .i64 kd, .int .i64 nn] 42))
      have RR := hide (RA.out (.cells #[.int .i64 kd, .int .i64 nn] 42))
      have TB : Hid (Blk (wo.alloc (.cells #[.int .i64 kd, .int .i64 nn] 42)) wo.heap.size 42 [.int .i64 kd, .int .i64 nn]) := Blk.new rfl
      clear BA RA
      by_cases h2 : kd = 1
      · have d1 : (kd == 1) = true := by simpa using h2
        have e9 := YES.out h2
        have cz := RR.out.cell hlt
        simp only [Nat.lt_irrefl, if_false] at cz
        have fz := RR.out.frozen k
        have NB : Hid (Below w.heap.size w ((wo.alloc (.cells #[.int .i64 kd, .int .i64 nn] 42)).setCell ⟨rb, k, none⟩ (.int .i64 1))) := BB.out.setCell NE.out _
        have NR : Hid (IRow ((wo.alloc (.cells #[.int .i64 kd, .int .i64 nn] 42)).setCell ⟨rb, k, none⟩ (.int .i64 1)) rb n (fun j => if j < k + 1 then zro (zW t a 1) ones j else 0)) := (RR.out.set_ k 1).congr fun j hj => by
          by_cases h1 : j = k
          · subst h1; rw [if_pos rfl, if_pos (by omega), e9]
          · by_cases h3 : j < k
            · rw [if_neg h1, if_pos h3, if_pos (by omega)]
            · rw [if_neg h1, if_neg h3, if_neg (by omega)]
        have t0 := TB.out.cell 0 rfl
        clear YES NO h2 e9 BB RR TB
        go_wp2_with fail
        go_roundg (n - k)
        case measure => omega
        case rel => exact ⟨k + 1, by go_num, by omega, by omega, NB, NR⟩
      · have d1 : (kd == 1) = false := by simpa using h2
        have e9 := NO.out h2
        have NR : Hid (IRow (wo.alloc (.cells #[.int .i64 kd, .int .i64 nn] 42)) rb n (fun j => if j < k + 1 then zro (zW t a 1) ones j else 0)) := RR.out.congr fun j hj => by
          by_cases h1 : j = k
          · subst h1; rw [if_neg (Nat.lt_irrefl _), if_pos (by omega), e9]
          · by_cases h3 : j < k
            · rw [if_pos h3, if_pos (by omega)]
            · rw [if_neg h3, if_neg (by omega)]
        have t0 := TB.out.cell 0 rfl
        clear YES NO h2 e9 RR TB
        go_wp2_with fail
        go_roundg (n - k)
        case measure => omega
        case rel => exact ⟨k + 1, by go_num, by omega, by omega, BB, NR⟩
    · have hltz : ¬ (k : Int) < (n : Int) := by omega
      obtain rfl : n = k := by omega
      go_wp2_with fail
      go_ret
      exact ⟨rb, rfl, NE.out, R.out.congr fun j hj => by rw [if_pos hj], B.out⟩
theorem gro_any (p : Option Addr) (n c a : Nat) (t : Nat → Tk) (w : World) (hr : SRow w p n 2 (trC fun j => t (a + j))) (hn : n ≤ 24) :
    Calls Try.prog 53 #[.slice p n c] w fun e w' => ∃ b, e = .returned (.slice (some ⟨b, 0, none⟩) n n) ∧ w.heap.size ≤ b ∧ IRow w' b n (zro (zW t a (kiG t a n)) ones) ∧ Below w.heap.size w w' := by
  unfold kiG
  cases h : hasF t a n with
  | true => exact gro_2 p n c a t w hr hn h
  | false => exact gro_1 p n c a t w hr hn h
end Go.Proofs.Ytdoenkngmgclmaa
/- What widen of package grid makes of the sizes of an item's tracks; all numbers in range. -/
namespace Go.Proofs.Ytdoenkngmgclmaa
open Go.RowKit Go.Sort
set_option linter.unusedVariables false
set_option linter.unusedSimpArgs false

/-- What stands behind a call and an assignment of what it returned. -/
def s2v (A0 : World → Prop) (A1 : Value → World → Prop) : List Value → World → Prop
  | [], W => A0 W
  | [v], W => A1 v W
  | _ :: v :: _, W => A1 v W
theorem s2v_J {A0 J : World → Prop} {A1 : Value → World → Prop} (h0 : ∀ W, A0 W → J W) (h1 : ∀ v W, A1 v W → J W) : ∀ (vals : List Value) (W : World), s2v A0 A1 vals W → J W
  | [], W, h => h0 W h
  | [v], W, h => h1 v W h
  | _ :: v :: _, W, h => h1 v W h
theorem srow_off {w : World} {b off n a pp : Nat} {t : Nat → Tk} (h : SRow w (some ⟨b, off, none⟩) n 2 (trC t)) (ha : a + pp ≤ n) : SRow w (some ⟨b, off + a * 2, none⟩) pp 2 (trC fun j => t (a + j)) := fun hp => by
  obtain ⟨b', off', e, hb, hc⟩ := h (by omega)
  simp only [Option.some.injEq, Addr.mk.injEq, and_true] at e
  obtain ⟨rfl, rfl⟩ := e
  refine ⟨b, off + a * 2, rfl, hb, fun i hi j hj => ?_⟩
  have := hc (a + i) (by omega) j hj
  rw [show off + a * 2 + i * 2 + j = off + (a + i) * 2 + j by rw [Nat.add_mul]; omega]
  rw [this]
  rfl
set_option maxHeartbeats 16000000 in
set_option maxRecDepth 100000 in
theorem wid_any (gap want : Int) (d : Nat) (p : Option Addr) (n c : Nat) (u1 u2 : Value) (t : Nat → Tk) (x : It) (sb : Nat) (s : Nat → Int) (w0 w : World) (hd : Blk w d 62 [.int .i64 gap, .slice p n c, u1, u2]) (hds : d ≠ sb) (hp : SRow w0 p n 2 (trC t)) (hB : Below w0.heap.size w0 w) (hsb : w0.heap.size ≤ sb) (hs : IRow w sb n s) (hn : n ≤ 24) (hx : okI n x) (hg : 0 ≤ gap ∧ gap ≤ 1048576) (hw : 0 ≤ want ∧ want ≤ 1048576) (hs0 : ∀ i, i < n → 0 ≤ s i ∧ s i ≤ 1048576) (hcn : n ≤ c) :
    Calls Try.prog 44 #[.pointer (some ⟨d, 0, none⟩), .slice (some ⟨sb, 0, none⟩) n n, itV x, .int .i64 want] w fun e w' => e = .returned (.tuple #[]) ∧ IRow w' sb n (widF t gap want x s) ∧ Kept sb w w' := by
  obtain ⟨ea, ep, hap, hp1⟩ := aG_eq hx
  have HP := hide hp
  have HS0 := hide hs0
  have WO : Hid (∀ i, ¬ (aG x ≤ i ∧ i < aG x + pG x) → widF t gap want x s i = s i) := fun i h => wid_out h
  have WI : Hid (∀ j, j < pG x → widF t gap want x s (aG x + j) = s (aG x + j) + shr (max (want - totG gap (fun j => s (aG x + j)) (pG x)) 0) (zro (zW t (aG x) (kiG t (aG x) (pG x))) ones) (pG x) j) := fun j hj => by
    unfold widF
    rw [if_pos (by omega), show aG x + j - aG x = j by omega]
  have TB : Hid (0 ≤ totG gap (fun j => s (aG x + j)) (pG x) ∧ totG gap (fun j => s (aG x + j)) (pG x) ≤ 67108864) := by
    have b := sumF_bound (f := fun j => s (aG x + j)) (B := 1048576) (pG x) fun k hk => hs0 _ (by omega)
    have g := gs_bd (n := pG x) hg (by omega)
    show _ ∧ _
    rw [tot_gs]
    omega
  have FBK : Hid (Blk (w.alloc (.cells #[.int .i64 (aG x : Int), .int .i64 (pG x : Int), .int .i64 x.mn, .int .i64 x.mx] 44)) w.heap.size 44 [.int .i64 (aG x : Int), .int .i64 (pG x : Int), .int .i64 x.mn, .int .i64 x.mx]) := Blk.new rfl
  have S1 : Hid (IRow (w.alloc (.cells #[.int .i64 (aG x : Int), .int .i64 (pG x : Int), .int .i64 x.mn, .int .i64 x.mx] 44)) sb n s) := hs.alloc _
  have B1 : Hid (Below w0.heap.size w0 (w.alloc (.cells #[.int .i64 (aG x : Int), .int .i64 (pG x : Int), .int .i64 x.mn, .int .i64 x.mx] 44))) := hB.alloc hB.size _
  have BW : Hid (Below w.heap.size w (w.alloc (.cells #[.int .i64 (aG x : Int), .int .i64 (pG x : Int), .int .i64 x.mn, .int .i64 x.mx] 44))) := (Below.refl _ _).alloc (Nat.le_refl _) _
  have D1 : Hid (Blk (w.alloc (.cells #[.int .i64 (aG x : Int), .int .i64 (pG x : Int), .int .i64 x.mn, .int .i64 x.mx] 44)) d 62 [.int .i64 gap, .slice p n c, u1, u2]) := (BW.out.block d hd.lt).trans hd
  have KW : Hid (Kept sb w (w.alloc (.cells #[.int .i64 (aG x : Int), .int .i64 (pG x : Int), .int .i64 x.mn, .int .i64 x.mx] 44))) := Kept.of BW.out
  have NX : Hid (w.heap.size ≠ sb) := Nat.ne_of_gt hs.lt
  have NDS := hide hds
  have hsb2 := hide hsb
  have GX : Hid (∀ (q : Option Addr) (c : Nat) (W : World), SRow W q (pG x) 2 (trC fun j => t (aG x + j)) → Calls Try.prog 53 #[.slice q (pG x) c] W fun e w' => ∃ b, e = .returned (.slice (some ⟨b, 0, none⟩) (pG x) (pG x)) ∧ W.heap.size ≤ b ∧ IRow w' b (pG x) (zro (zW t (aG x) (kiG t (aG x) (pG x))) ones) ∧ Below W.heap.size W w') := fun q c W h => gro_any q (pG x) c (aG x) t W h (by omega)
  have ZG : Hid (Good (zro (zW t (aG x) (kiG t (aG x) (pG x))) ones) (pG x)) := zro_ones_good _ _
  unfold itV
  rw [← ea, ← ep]
  generalize widF t gap want x s = wid at *
  generalize zro (zW t (aG x) (kiG t (aG x) (pG x))) ones = zz at *
  generalize aG x = a at *
  generalize pG x = pp at *
  generalize x.mn = xmn at *
  generalize x.mx = xmx at *
  obtain ⟨hg1, hg2⟩ := hg
  obtain ⟨hw1, hw2⟩ := hw
  clear hp hs0 hx hs hB ea ep hsb x hd hds
  have wad : IntKind.i64.wrap ((a : Int) + (pp : Int)) = (a : Int) + (pp : Int) := wr (by omega) (by omega)
  go_enter Try.func44, Try.ntmps44
  go_wp2_with fail
  generalize w.alloc (.cells #[.int .i64 (a : Int), .int .i64 (pp : Int), .int .i64 xmn, .int .i64 xmx] 44) = w1 at *
  clear BW
  generalize w.heap.size = xb at *
  have f0 : w1.cell? ⟨xb, 0, none⟩ = some (.int .i64 (a : Int)) := FBK.out.cell 0 rfl
  have f1 : w1.cell? ⟨xb, 1, none⟩ = some (.int .i64 (pp : Int)) := FBK.out.cell 1 rfl
  have q0 : (a : Int) ≤ (a : Int) + (pp : Int) := by omega
  have q1 : (a : Int) + (pp : Int) ≤ (n : Int) := by omega
  have q2 : a + pp - a = pp := by omega
  have q3 : (a : Int) + (pp : Int) ≤ (c : Int) := by omega
  have q4 : ((a : Int) + (pp : Int)).toNat - a = pp := by omega
  have q5 : ¬ c = a := by omega
  go_wp2_with fail
  obtain ⟨tb, off, rfl, htb, hc⟩ := (HP.out.below B1.out) (by omega)
  clear htb hc f0 f1
  have JQ : Hid (∀ W', Below w1.heap.size w1 W' → W'.cell? ⟨d, 1, none⟩ = some (.slice (some ⟨tb, off, none⟩) n c) ∧ W'.cell? ⟨xb, 0, none⟩ = some (.int .i64 (a : Int))) := fun W' h => ⟨(show Blk W' d 62 [.int .i64 gap, .slice (some ⟨tb, off, none⟩) n c, u1, u2] from (h.block d D1.out.lt).trans D1.out).cell 1 rfl, (show Blk W' xb 44 [.int .i64 (a : Int), .int .i64 (pp : Int), .int .i64 xmn, .int .i64 xmx] from (h.block xb FBK.out.lt).trans FBK.out).cell 0 rfl⟩
  have PRE : Hid (Kept sb w w1.drew ∧ Below w0.heap.size w0 w1.drew ∧ Below w1.heap.size w1 w1.drew) := ⟨KW.out.drewN 1, B1.out.drew, (Below.refl _ _).drew⟩
  have CALL : Hid (∀ W', (Kept sb w W' ∧ Below w0.heap.size w0 W' ∧ Below w1.heap.size w1 W') → Calls Try.prog 53 #[.slice (some ⟨tb, off + a * 2, none⟩) pp (c - a)] W' fun e w' => ∃ v, e = .returned v ∧ (Kept sb w w' ∧ Below w0.heap.size w0 w' ∧ Below w1.heap.size w1 w' ∧ ∃ b, v = .slice (some ⟨b, 0, none⟩) pp pp ∧ w1.heap.size ≤ b ∧ IRow w' b pp zz)) := fun W' ⟨h1, h2, h3⟩ => (GX.out (some ⟨tb, off + a * 2, none⟩) (c - a) W' (srow_off (HP.out.below h2) hap)).mono (by
    rintro e w' ⟨b, rfl, hb, hr, hB⟩
    exact ⟨_, rfl, h1.then hB, h2.trans (hB.mono h2.size), h3.trans (hB.mono h3.size), b, rfl, Nat.le_trans h3.size hb, hr⟩)
  refine MJ.wp_region_chain (fun W' => W'.cell? ⟨d, 1, none⟩ = some (.slice (some ⟨tb, off, none⟩) n c) ∧ W'.cell? ⟨xb, 0, none⟩ = some (.int .i64 (a : Int))) [8, 9] [(33, 8), (10, 9)] (s2v (fun W' => (Kept sb w W' ∧ Below w0.heap.size w0 W' ∧ Below w1.heap.size w1 W')) (fun v W' => (Kept sb w W' ∧ Below w0.heap.size w0 W' ∧ Below w1.heap.size w1 W' ∧ ∃ b, v = .slice (some ⟨b, 0, none⟩) pp pp ∧ w1.heap.size ≤ b ∧ IRow W' b pp zz))) (by kernel_rfl) (by kernel_rfl) (by simp) ?h0 ?hJ ?_
  case h0 => exact PRE.out
  case hJ =>
    rintro vals W' _ hS'
    exact s2v_J (J := fun W' => W'.cell? ⟨d, 1, none⟩ = some (.slice (some ⟨tb, off, none⟩) n c) ∧ W'.cell? ⟨xb, 0, none⟩ = some (.int .i64 (a : Int))) (fun W h => JQ.out W h.2.2) (fun v W h => JQ.out W h.2.2.1) vals W' hS'
  repeat (refine MJ.lex_calm rfl (by rfl) (fun K hK => ?_); apply Exists.intro; refine ⟨fun W' hW => ?_, ?_⟩; (dsimp only at hW; go_simp; exact rfl); go_simp; refine hK _ ?_; clear hK K)
  refine MJ.lex_chain 0 rfl (by kernel_rfl) rfl ?_ ?_
  · rintro vs W' hS'
    have y3 := hide (CALL.out W' hS')
    clear hS'
    simp [go_sem, evS, List.lookup]
    refine y3.out.mono ?_
    rintro e w' ⟨v, rfl, hR⟩
    exact ⟨_, rfl, hR⟩
  refine MJ.lex_chain 1 rfl (by kernel_rfl) rfl ?_ ?_
  · rintro vs W' hS'
    have y3 := hide hS'
    obtain ⟨k1, k2, k3, b, e8, k4, k5⟩ := hS'
    clear k1 k2 k3 k4 k5
    simp [go_sem, evS, List.lookup]
    exact y3.out
  refine MJ.lex_nil ?_
  rintro vs w2 ⟨k1, k2, k3, b, e8, k4, k5⟩
  have D2 : Hid (Blk w2 d 62 [.int .i64 gap, .slice (some ⟨tb, off, none⟩) n c, u1, u2]) := (k3.block d D1.out.lt).trans D1.out
  have S2 : Hid (IRow w2 sb n s) := S1.out.below k3 S1.out.lt
  have KK2 := hide k1
  have B2 := hide k2
  have Z2 := hide k5
  have NB : Hid (w1.heap.size ≤ b ∧ b ≠ sb ∧ b ≠ d) := ⟨k4, by have := S1.out.lt; omega, by have := D1.out.lt; omega⟩
  clear k1 k2 k3 k4 k5 PRE CALL JQ GX q0 q1 q3 q4 wad
  simp only [fillS, List.foldl_cons, List.foldl_nil, e8]
  clear e8
  have c0 := D2.out.cell 0 rfl
  have RD : Hid (Reads w2 (some ⟨sb, a, none⟩) pp (fun j => s (a + j))) := fun _ => ⟨sb, a, rfl, fun k hk => S2.out.cell (by omega)⟩
  have EXT := hide (gext_any gap (some ⟨sb, a, none⟩) pp (n - a) (fun j => s (a + j)) w2 RD.out (by omega) ⟨hg1, hg2⟩ (fun i hi => by have := HS0.out (a + i) (by omega); omega))
  obtain ⟨T, hT⟩ : ∃ T, T = max (want - totG gap (fun j => s (a + j)) pp) 0 := ⟨_, rfl⟩
  rw [← hT] at WI
  have tb1 := TB.out
  have hT1 : 0 ≤ T ∧ T ≤ 1048576 := by omega
  have SH := hide (share_ok T (some ⟨b, 0, none⟩) pp pp zz w2 Z2.out.reads ⟨by omega, hT1.1, by omega, ZG.out⟩)
  have PB : Hid (∀ P, Parts T zz pp P → ∀ i, i < pp → (0 ≤ P i ∧ P i ≤ 1048576) ∧ P i = shr T zz pp i) := fun P hP i hi => by
    have := hP.bounds hT1.1 ZG.out hi
    exact ⟨by omega, shr_of hP hi⟩
  have wsb : IntKind.i64.wrap (want - totG gap (fun j => s (a + j)) pp) = want - totG gap (fun j => s (a + j)) pp := wr (by omega) (by omega)
  replace hT := hide hT
  clear hT1 tb1 TB RD
  generalize totG gap (fun j => s (a + j)) pp = tt at *
  go_wp2_with fail
  refine EXT.out.mono ?_
  rintro e w' ⟨rfl, rfl⟩
  clear EXT c0
  go_wp2_with fail
  rw [← hT.out]
  refine SH.out.mono ?_
  rintro e w3 ⟨rfl, hB3, P, hPP, hPR⟩
  have K3 : Hid (Kept sb w w3) := KK2.out.then hB3
  have P3 : Hid (IRow w3 w2.heap.size pp P) := hPR
  have S3 : Hid (IRow w3 sb n (fun i => if i < a + 0 then wid i else s i)) := (S2.out.below hB3 S2.out.lt).congr fun i hi => by
    by_cases h : i < a + 0
    · rw [if_pos h]; exact (WO.out i (by omega)).symm
    · rw [if_neg h]
  have NP : Hid (w2.heap.size ≠ sb) := Nat.ne_of_gt S2.out.lt
  have PS := hide (PB.out P hPP)
  clear hB3 hPP hPR SH KK2 S2 B2 Z2 D2 wsb PB
  go_wp2_with fail
  generalize w2.heap.size = pb at *
  go_loopg [50] (pp + 1) (fun g1 vk wr => ∃ j : Nat, vk = .int .i64 (j : Int) ∧ j ≤ pp ∧ pp - j < g1 ∧ Hid (Kept sb w wr) ∧ Hid (IRow wr pb pp P) ∧ Hid (IRow wr sb n (fun i => if i < a + j then wid i else s i)))
  case atStart => exact ⟨0, by go_num, by omega, by omega, K3, P3, S3⟩
  case round =>
    clear K3 P3 S3
    obtain ⟨wo, rfl⟩ : ∃ wo : World, wo = wr := ⟨_, rfl⟩
    obtain ⟨j, rfl, hj, hgg, KK, PR, SR⟩ := hrel
    by_cases hlt : j < pp
    · have hltz : (j : Int) < (pp : Int) := by omega
      have cp := PR.out.cell hlt
      have cs := SR.out.cell (i := a + j) (by omega)
      rw [if_neg (Nat.lt_irrefl _)] at cs
      have fz := SR.out.frozen (a + j)
      obtain ⟨⟨p1, p2⟩, p3⟩ := PS.out j hlt
      obtain ⟨s1, s2⟩ := HS0.out (a + j) (by omega)
      have SPE : Hid (wid (a + j) = s (a + j) + P j) := by show _ = _; rw [WI.out j hlt, p3]
      have NK : Hid (Kept sb w (wo.setCell ⟨sb, a + j, none⟩ (.int .i64 (s (a + j) + P j)))) := KK.out.set _ _
      have NR : Hid (IRow (wo.setCell ⟨sb, a + j, none⟩ (.int .i64 (s (a + j) + P j))) pb pp P) := PR.out.far NP.out _
      have NS : Hid (IRow (wo.setCell ⟨sb, a + j, none⟩ (.int .i64 (s (a + j) + P j))) sb n (fun i => if i < a + (j + 1) then wid i else s i)) := (SR.out.set_ (a + j) _).congr fun i hi => by
        by_cases h1 : i = a + j
        · subst h1; rw [if_pos rfl, if_pos (by omega)]; exact SPE.out.symm
        · by_cases h2 : i < a + j
          · rw [if_neg h1, if_pos h2, if_pos (by omega)]
          · rw [if_neg h1, if_neg h2, if_neg (by omega)]
      clear KK PR SR p3 SPE
      generalize P j = pj at *
      generalize s (a + j) = sj at *
      go_wp2_with fail
      go_roundg (pp - j)
      case measure => omega
      case rel => exact ⟨j + 1, by go_num, by omega, by omega, NK, NR, NS⟩
    · have hltz : ¬ (j : Int) < (pp : Int) := by omega
      obtain rfl : j = pp := by omega
      go_wp2_with fail
      go_end0
      exact ⟨rfl, SR.out.congr fun i hi => by
        by_cases h : i < a + j
        · rw [if_pos h]
        · rw [if_neg h]; exact (WO.out i (by omega)).symm, KK.out⟩
end Go.Proofs.Ytdoenkngmgclmaa
