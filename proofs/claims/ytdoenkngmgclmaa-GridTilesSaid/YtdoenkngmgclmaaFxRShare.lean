/- What the reference of Share returns: the same errors and the same parts; the weights are a slice of readable integers. -/
import Derived.Test.YtdoenkngmgclmaaFxUniq
namespace Go.Proofs.Ytdoenkngmgclmaa
open Go.RowKit

theorem rshare_long (total : Int) (p : Option Addr) (n c : Nat) (w : World) (hn : 100 < n) :
    Calls Try.prog 39 #[.int .i64 total, .slice p n c] w fun e w' => e = .returned (.tuple #[.slice none 0 0, .int .i64 2]) ∧ w = w' := by
  have hz : (100 : Int) < (n : Int) := by omega
  go_enter Try.func39, Try.ntmps39
  go_wp2
  go_ret2
  exact ⟨rfl, rfl⟩
theorem rshare_total (total : Int) (p : Option Addr) (n c : Nat) (w : World) (hn : n ≤ 100) (ht : total < 0 ∨ 1073741824 < total) :
    Calls Try.prog 39 #[.int .i64 total, .slice p n c] w fun e w' => e = .returned (.tuple #[.slice none 0 0, .int .i64 1]) ∧ w = w' := by
  have hz : ¬ (100 : Int) < (n : Int) := by omega
  rcases ht with ht | ht
  all_goals
    go_enter Try.func39, Try.ntmps39
    go_wp2
    all_goals go_ret2
    all_goals exact ⟨rfl, rfl⟩

/-- What the reference leaves where the weights are at most 100 and the total is in range. -/
def RShared (total : Int) (f : Nat → Int) (n : Nat) (w : World) (e : Ending) (w' : World) : Prop :=
  (¬ Good f n ∧ e = .returned (.tuple #[.slice none 0 0, .int .i64 1]) ∧ w = w') ∨
  (Good f n ∧ e = .returned (.tuple #[.slice (some ⟨w.heap.size, 0, none⟩) n n, .int .i64 0]) ∧ Below w.heap.size w w' ∧ ∃ P, Parts total f n P ∧ IRow w' w.heap.size n P)

theorem rshare_none (total : Int) (p : Option Addr) (c : Nat) (f : Nat → Int) (w : World) (h1 : 0 ≤ total) (h2 : total ≤ 1073741824) :
    Calls Try.prog 39 #[.int .i64 total, .slice p 0 c] w (RShared total f 0 w) := by
  have hmk : ∀ W : World, (Instr.makeSlice 22 (.int .i64 0) (.int .i64 0)).run Try.prog W = .ok (.slice (some ⟨W.heap.size, 0, none⟩) 0 0) (W.alloc (.cells (ints 0 (fun _ => 0)) 3)) := make_ints 0 (by omega)
  have B1 : Hid (Below w.heap.size w (w.alloc (.cells (ints 0 fun _ => 0) 3))) := (Below.refl _ _).alloc (Nat.le_refl _) _
  go_enter Try.func39, Try.ntmps39
  go_wp2
  refine wp_loop_rounds 1 ?_
  rw [rounds_succ]
  go_wp2
  go_ret2
  exact Or.inr ⟨fun k hk => absurd hk (Nat.not_lt_zero _), rfl, B1.out, fun _ => 0, Or.inl ⟨rfl, fun _ _ => rfl⟩, IRow.new w 0 _⟩

/-- The two rows behind t rounds of the reference's last loop. -/
def Taken (total S : Int) (f : Nat → Int) (n : Nat) (g : Nat → Nat) (w : World) (t : Nat) (wr : World) : Prop :=
  Below w.heap.size w wr ∧ IRow wr w.heap.size n (fun j => quoF total S f j + if g j < t then 1 else 0) ∧ IRow wr (w.heap.size + 1) n (leftF (remF total S f) g t)
theorem Taken.drewN {total S : Int} {f : Nat → Int} {n : Nat} {g : Nat → Nat} {w wr : World} {t : Nat} (h : Taken total S f n g w t wr) (k : Nat) : Taken total S f n g w t (wr.drewN k) :=
  ⟨⟨h.1.os, h.1.tape, h.1.output, h.1.size, h.1.block⟩, h.2.1, h.2.2⟩
theorem Taken.step {total S : Int} {f : Nat → Int} {n : Nat} {h g : Nat → Nat} {w wr : World} {t : Nat} (T : Taken total S f n g w t wr) (h1 : ∀ k, g (h k) = k) (h2 : ∀ k, h (g k) = k) :
    Taken total S f n g w (t + 1) ((wr.setCell ⟨w.heap.size, h t, none⟩ (.int .i64 (quoF total S f (h t) + 1))).setCell ⟨w.heap.size + 1, h t, none⟩ (.int .i64 (-1))) := by
  obtain ⟨s1, s2, s3⟩ := T
  have ne : ∀ i, i ≠ h t → g i ≠ t := fun i e e' => e (by rw [← e', h2])
  refine ⟨(s1.setCell (Nat.le_refl _) _).setCell (by simp) _, ((s2.set_ (h t) (quoF total S f (h t) + 1)).congr fun i _ => ?_).far (by simp) _, ((s3.far (p := ⟨w.heap.size, h t, none⟩) (by simp) _).set_ (h t) (-1)).congr fun i _ => ?_⟩
  · by_cases e : i = h t
    · subst e; rw [if_pos rfl, h1, if_pos (by omega)]
    · have := ne i e
      rw [if_neg e]
      by_cases l : g i < t
      · rw [if_pos l, if_pos (by omega)]
      · rw [if_neg l, if_neg (by omega)]
  · unfold leftF
    by_cases e : i = h t
    · subst e; rw [if_pos rfl, h1, if_pos (by omega)]
    · have := ne i e
      rw [if_neg e]
      by_cases l : g i < t
      · rw [if_pos l, if_pos (by omega)]
      · rw [if_neg l, if_neg (by omega)]

set_option maxHeartbeats 8000000 in
set_option maxRecDepth 100000 in
theorem rshare_main (total : Int) (b off : Nat) (n c : Nat) (f : Nat → Int) (w : World) (hp : 0 < n) (hn : n ≤ 100) (h1 : 0 ≤ total) (h2 : total ≤ 1073741824) (hc : ∀ k, k < n → w.cell? ⟨b, off + k, none⟩ = some (.int .i64 (f k))) :
    Calls Try.prog 39 #[.int .i64 total, .slice (some ⟨b, off, none⟩) n c] w (RShared total f n w) := by
  have hmk := make_ints n (by omega)
  have HX := hide hc
  clear hc
  have hz : ¬ (100 : Int) < (n : Int) := by omega
  go_enter Try.func39, Try.ntmps39
  go_wp2_with fail
  go_loop [6, 7] (fun vs vi => ∃ i : Nat, i ≤ n ∧ vi = .int .i64 i ∧ vs = .int .i64 (sumF f i) ∧ Hid (Good f i)) (fun _ vi => n - (intOf vi).toNat)
  case atStart => exact ⟨0, Nat.zero_le _, by go_num, rfl, fun k hk => absurd hk (Nat.not_lt_zero _)⟩
  case round =>
    obtain ⟨i, hi, rfl, rfl, HS⟩ := hrel
    by_cases hlt : i < n
    · have hltz : (i : Int) < (n : Int) := by omega
      have ci := HX.out i hlt
      by_cases hs : 0 ≤ f i ∧ f i ≤ 2147483648
      · have HS' : Hid (Good f (i + 1)) := fun k hk => by
          rcases Nat.lt_or_ge k i with h | h
          · exact HS.out k h
          · obtain rfl : k = i := by omega
            exact hs
        have E : Hid (sumF f (i + 1) = sumF f i + f i) := rfl
        have sb := sumF_bound (B := 2147483648) i HS.out
        obtain ⟨s1, s2⟩ := sb
        obtain ⟨hs1, hs2⟩ := hs
        clear HS
        go_wp2_with fail
        go_round
        case rel => exact ⟨i + 1, by omega, by go_num, by rw [E.out], HS'⟩
        case measure => simp [intOf]; omega
      · have hs' : f i < 0 ∨ 2147483648 < f i := by omega
        have NG : Hid (¬ Good f n) := fun h => hs (h i hlt)
        clear hs HS
        rcases hs' with hs' | hs'
        all_goals
          go_wp2_with fail
          go_ret2
          exact Or.inl ⟨NG.out, rfl, rfl⟩
    · have hltz : ¬ (i : Int) < (n : Int) := by omega
      obtain rfl : n = i := by omega
      have HG := HS
      clear HS
      have sb := sumF_bound (B := 2147483648) n HG.out
      obtain ⟨S, hS⟩ : ∃ S, S = sumF f n := ⟨_, rfl⟩
      rw [← hS] at sb ⊢
      have HS := hide hS
      obtain ⟨sb1, sb2⟩ := sb
      have sb3 : S ≤ 214748364800 := by omega
      clear hS sb2
      by_cases hS0 : S = 0
      · have d1 : (S == 0) = true := by rw [hS0]; rfl
        have B1 : Hid (Below w.heap.size w (w.alloc (.cells (ints n fun _ => 0) 3))) := (Below.refl _ _).alloc (Nat.le_refl _) _
        have Z : Hid (sumF f n = 0) := by rw [← HS.out]; exact hS0
        clear hS0
        go_wp2_with fail
        go_ret2
        exact Or.inr ⟨HG.out, rfl, B1.out, fun _ => 0, Or.inl ⟨Z.out, fun _ _ => rfl⟩, IRow.new w n _⟩
      · have d1 : (S == 0) = false := by simpa using hS0
        have hSp : 0 < S := by omega
        have H0 : Hid (Halfway total S f n w 0 ((w.alloc (.cells (ints n fun _ => 0) 3)).alloc (.cells (ints n fun _ => 0) 3))) := by
          refine ⟨((Below.refl _ _).alloc (Nat.le_refl _) _).alloc (by simp) _, ?_, ?_⟩
          · exact ((IRow.new w n _).alloc _).congr (fun i _ => by simp)
          · have := (IRow.new (w.alloc (.cells (ints n fun _ => 0) 3)) n (fun _ => 0)).congr (g := fun j => if j < 0 then remF total S f j else 0) (fun i _ => by simp)
            simpa using this
        have HQ : Hid (∀ i, i < n → 0 ≤ quoF total S f i ∧ quoF total S f i ≤ total) := fun i hi => quo_bound h1 (HG.out i hi).1 (by rw [HS.out]; exact le_sum n (fun k hk => (HG.out k hk).1) i hi) hSp
        clear hS0
        go_wp2_with fail
        clear d1
        generalize (w.alloc (.cells (ints n fun _ => 0) 3)).alloc (.cells (ints n fun _ => 0) 3) = w1 at H0 ⊢
        go_loopg [10, 11] (n + 1) (fun g1 vl vk wr => ∃ k : Nat, vk = .int .i64 k ∧ vl = .int .i64 (total - sumF (quoF total S f) k) ∧ k ≤ n ∧ n - k < g1 ∧ Hid (Halfway total S f n w k wr))
        case atStart => exact ⟨0, by go_num, by simp [sumF], by omega, by omega, H0⟩
        case round =>
          clear H0
          obtain ⟨k, rfl, rfl, hk, hg, H1⟩ := hrel
          by_cases hlt : k < n
          · have hltz : (k : Int) < (n : Int) := by omega
            have ck := (H1.out.1.cell (p := ⟨b, off + k, none⟩) (lt_of_cell (HX.out k hlt))).trans (HX.out k hlt)
            have hbl : b < w.heap.size := lt_of_cell (HX.out k hlt)
            have c1 := H1.out.2.1.cell hlt
            have f1 := H1.out.2.1.frozen k
            have c2 := H1.out.2.2.cell hlt
            have f2 := H1.out.2.2.frozen k
            have H2 := hide H1.out.step
            have fk := HG.out k hlt
            obtain ⟨m1, m2⟩ := mul_bounds h1 h2 fk.1 fk.2
            have ew : IntKind.i64.wrap (total * f k) = total * f k := wrap_in (by omega)
            have q1 : 0 ≤ total * f k / S := Int.ediv_nonneg m1 (by omega)
            have q2 : total * f k / S ≤ total * f k := Int.ediv_le_self _ m1
            have hne : ¬ S = 0 := by omega
            have qs := sumF_bound (B := total) k (fun j hj => HQ.out j (by omega))
            obtain ⟨qs1, qs2⟩ := qs
            have qs3 : sumF (quoF total S f) k ≤ 107374182400 := by
              have a : ((k : Nat) : Int) * total ≤ ((k : Nat) : Int) * 1073741824 := Int.mul_le_mul_of_nonneg_left h2 (by omega)
              omega
            have E : Hid (sumF (quoF total S f) (k + 1) = sumF (quoF total S f) k + total * f k / S) := rfl
            clear H1 fk qs2
            unfold quoF remF at H2
            go_wp2_with fail
            go_roundg (n - k)
            case measure => omega
            case rel => exact ⟨k + 1, by go_num, by rw [E.out]; exact congrArg (Value.int .i64) (by omega), by omega, by omega, H2⟩
          · have hltz : ¬ (k : Int) < (n : Int) := by omega
            obtain rfl : n = k := by omega
            have lb := left_bound (total := total) HG.out (by rw [← HS.out]; exact hSp)
            rw [← HS.out] at lb
            obtain ⟨h, g, O⟩ := (by obtain ⟨m, rfl⟩ : ∃ m, n = m + 1 := ⟨n - 1, by omega⟩; exact order_exists (remF total S f) m : ∃ h g, Order (remF total S f) n h g)
            obtain ⟨L, hL⟩ : ∃ L : Nat, (L : Int) = total - sumF (quoF total S f) n := ⟨(total - sumF (quoF total S f) n).toNat, by omega⟩
            rw [← hL]
            have HL := hide hL
            have OO := hide O
            have l3 : L < n := by omega
            have T0 : Hid (Taken total S f n g w 0 wr) := ⟨H1.out.1, H1.out.2.1.congr (fun i hi => by rw [if_pos hi]; simp), H1.out.2.2.congr (fun i hi => by unfold leftF; rw [if_pos hi, if_neg (Nat.not_lt_zero _)])⟩
            clear H1 lb hL O HX
            go_wp2_with fail
            go_loopg [10] (L + 1) (fun g1 vl wr => ∃ t : Nat, vl = .int .i64 ((L : Int) - t) ∧ t ≤ L ∧ L - t < g1 ∧ Hid (Taken total S f n g w t wr))
            case atStart => exact ⟨0, by simp, by omega, by omega, T0⟩
            case round =>
              clear T0
              obtain ⟨wa, rfl⟩ : ∃ wa : World, wa = wr := ⟨_, rfl⟩
              obtain ⟨t, rfl, ht, hg1, T⟩ := hrel
              by_cases hlt2 : t < L
              · have hltz2 : (0 : Int) < (L : Int) - (t : Int) := by omega
                go_wp2_with fail
                go_loopg [12, 13] (n + 1) (fun g2 vb vi wr2 => ∃ best i j : Nat, vb = .int .i64 best ∧ vi = .int .i64 i ∧ i ≤ n ∧ best < n ∧ n - i < g2 ∧ Hid (Best (leftF (remF total S f) g t) best i) ∧ Hid (wr2 = wa.drewN j))
                case atStart => exact ⟨0, 1, 0, by go_num, by go_num, by omega, by omega, by omega, Best.start _, rfl⟩
                case round =>
                  obtain ⟨wb, rfl⟩ : ∃ wb : World, wb = wr := ⟨_, rfl⟩
                  obtain ⟨best, i, j, rfl, rfl, hi, hbn, hg2, HB, HW⟩ := hrel
                  by_cases hlt3 : i < n
                  · have hltz3 : (i : Int) < (n : Int) := by omega
                    have hbz : (best : Int) < (n : Int) := by omega
                    have c1 : wb.cell? ⟨w.heap.size + 1, i, none⟩ = some (.int .i64 (leftF (remF total S f) g t i)) := by rw [HW.out]; exact (T.out.drewN j).2.2.cell hlt3
                    have c2 : wb.cell? ⟨w.heap.size + 1, best, none⟩ = some (.int .i64 (leftF (remF total S f) g t best)) := by rw [HW.out]; exact (T.out.drewN j).2.2.cell hbn
                    by_cases hx : leftF (remF total S f) g t best < leftF (remF total S f) g t i
                    · have HB' := hide (HB.out.take hx)
                      clear HB
                      generalize leftF (remF total S f) g t i = X at c1 hx
                      generalize leftF (remF total S f) g t best = Y at c2 hx
                      go_wp2_with fail
                      go_quiet (fail)
                      have HW' : Hid (wb.drewN nq = wa.drewN (j + nq)) := by show _ = _; rw [HW.out, World.drewN_drewN]
                      clear c1 c2 HW
                      generalize wb.drewN nq = w2 at HW' ⊢
                      go_wp2
                      go_roundg (n - i)
                      case measure => omega
                      case rel => exact ⟨i, i + 1, j + nq, rfl, by go_num, by omega, by omega, by omega, HB', HW'⟩
                    · have HB' := hide (HB.out.keep hx)
                      clear HB
                      generalize leftF (remF total S f) g t i = X at c1 hx
                      generalize leftF (remF total S f) g t best = Y at c2 hx
                      go_wp2_with fail
                      go_quiet (fail)
                      have HW' : Hid (wb.drewN nq = wa.drewN (j + nq)) := by show _ = _; rw [HW.out, World.drewN_drewN]
                      clear c1 c2 HW
                      generalize wb.drewN nq = w2 at HW' ⊢
                      go_wp2
                      go_roundg (n - i)
                      case measure => omega
                      case rel => exact ⟨best, i + 1, j + nq, rfl, by go_num, by omega, by omega, by omega, HB', HW'⟩
                  · have hltz3 : ¬ (i : Int) < (n : Int) := by omega
                    obtain rfl : n = i := by omega
                    have eb := Best.next OO.out (fun j _ => (rem_bound total S f j hSp).1) (by omega) HB.out
                    have T1 : Hid (Taken total S f n g w t wb) := by show Taken total S f n g w t wb; rw [HW.out]; exact T.out.drewN j
                    have c1 := T1.out.2.1.cell hbn
                    have cv : quoF total S f best + (if g best < t then (1 : Int) else 0) = quoF total S f best := by rw [eb, OO.out.gh, if_neg (Nat.lt_irrefl _), Int.add_zero]
                    rw [cv] at c1
                    have f1 := T1.out.2.1.frozen best
                    have c2 := T1.out.2.2.cell hbn
                    have f2 := T1.out.2.2.frozen best
                    have T2 := hide (T1.out.step OO.out.gh OO.out.hg)
                    rw [← eb] at T2
                    obtain ⟨q1, q2⟩ := HQ.out best hbn
                    have hbz : (best : Int) < (n : Int) := by omega
                    clear T1 HB HW T cv eb
                    generalize quoF total S f best = V at c1 T2 q1 q2
                    go_wp2_with fail
                    go_roundg (L - t)
                    case measure => omega
                    case rel => exact ⟨t + 1, by exact congrArg (Value.int .i64) (by omega), by omega, by omega, T2⟩
              · have hltz2 : ¬ (0 : Int) < (L : Int) - (t : Int) := by omega
                obtain rfl : L = t := by omega
                go_wp2_with fail
                go_ret2
                obtain ⟨t1, t2, _⟩ := T.out
                refine Or.inr ⟨HG.out, rfl, t1, _, Or.inr ⟨by rw [← HS.out]; exact hSp, h, g, by rw [← HS.out]; exact OO.out, fun i _ => ?_⟩, t2⟩
                unfold partF
                rw [← HS.out, ← HL.out]
                congr 1
                by_cases l : g i < L
                · rw [if_pos l, if_pos (by omega)]
                · rw [if_neg l, if_neg (by omega)]

theorem rshare_err (total : Int) (p : Option Addr) (n c : Nat) (f : Nat → Int) (w : World) (hr : Reads w p n f) (h : ¬ InShare total f n) :
    Calls Try.prog 39 #[.int .i64 total, .slice p n c] w fun e w' => e = .returned (.tuple #[.slice none 0 0, .int .i64 (if 100 < n then 2 else 1)]) ∧ w = w' := by
  by_cases hn : 100 < n
  · rw [if_pos hn]
    exact rshare_long total p n c w hn
  · rw [if_neg hn]
    by_cases ht : 0 ≤ total ∧ total ≤ 1073741824
    · have ng : ¬ Good f n := fun hg => h ⟨by omega, ht.1, ht.2, hg⟩
      rcases Nat.eq_zero_or_pos n with rfl | hp
      · exact absurd (fun k hk => absurd hk (Nat.not_lt_zero _)) ng
      · obtain ⟨b, off, rfl, hc⟩ := hr hp
        refine (rshare_main total b off n c f w hp (by omega) ht.1 ht.2 hc).mono ?_
        rintro e w' (⟨_, h1, h2⟩ | ⟨hg, _⟩)
        · exact ⟨h1, h2⟩
        · exact absurd hg ng
    · exact rshare_total total p n c w (by omega) (by omega)
theorem rshare_ok (total : Int) (p : Option Addr) (n c : Nat) (f : Nat → Int) (w : World) (hr : Reads w p n f) (h : InShare total f n) :
    Calls Try.prog 39 #[.int .i64 total, .slice p n c] w fun e w' =>
      e = .returned (.tuple #[.slice (some ⟨w.heap.size, 0, none⟩) n n, .int .i64 0]) ∧ Below w.heap.size w w' ∧ ∃ P, Parts total f n P ∧ IRow w' w.heap.size n P := by
  obtain ⟨h1, h2, h3, h4⟩ := h
  have fin : ∀ e w', RShared total f n w e w' → (e = .returned (.tuple #[.slice (some ⟨w.heap.size, 0, none⟩) n n, .int .i64 0]) ∧ Below w.heap.size w w' ∧ ∃ P, Parts total f n P ∧ IRow w' w.heap.size n P) := by
    rintro e w' (⟨hg, _⟩ | ⟨_, k1, k2, k3⟩)
    · exact absurd h4 hg
    · exact ⟨k1, k2, k3⟩
  rcases Nat.eq_zero_or_pos n with rfl | hp
  · exact (rshare_none total p c f w h2 h3).mono fin
  · obtain ⟨b, off, rfl, hc⟩ := hr hp
    exact (rshare_main total b off n c f w hp h1 h2 h3 hc).mono fin
end Go.Proofs.Ytdoenkngmgclmaa
