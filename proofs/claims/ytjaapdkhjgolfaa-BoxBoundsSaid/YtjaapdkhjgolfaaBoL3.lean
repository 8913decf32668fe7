/- What the law BoxBounds runs, where Resolve (and, for the sanity check, Offsets) answer as the chapter asks; no other condition. -/
import Derived.Test.YtjaapdkhjgolfaaBoAx
import Derived.Test.YtjaapdkhjgolfaaBoEl
import Derived.BigQuiet
namespace Go.Proofs.Ytjaapdkhjgolfaa
open Go.RowKit Go.Sort
set_option linter.unusedVariables false
set_option linter.unusedSimpArgs false

theorem rClamp_back (x low high : Int) (w : World) :
    Calls Try.prog 18 #[.int .i64 x, .int .i64 low, .int .i64 high] w fun e w' => e = .returned (.int .i64 (clampS x low high)) ∧ w' = w := (rClamp_any x low high w).mono (by rintro e w' ⟨h1, h2⟩; exact ⟨h1, h2.symm⟩)
theorem res_cl (av gap : Int) (x : Nat → Fx) (n i : Nat) : (x i).mn ≤ resF av gap x n i ∧ ((x i).mn ≤ (x i).mx → resF av gap x n i ≤ (x i).mx) ∧ ((x i).mx < (x i).mn → resF av gap x n i = (x i).mn) := by
  unfold resF
  obtain ⟨u, e⟩ := it_cl (g := growB (spcF av gap n) x n) (sp := spcF av gap n) (x := x) (n := n) n i
  rw [e]
  exact cl_bd _ _
theorem res_nat (av gap : Int) (x : Nat → Fx) (n i : Nat) (h1 : (x i).gr = 0) (h2 : (x i).sh = 0) : resF av gap x n i = clampS (x i).ba (x i).mn (x i).mx := by
  unfold resF
  have h : fr0 (growB (spcF av gap n) x n) x i = true := by
    unfold fr0 wtF
    cases growB (spcF av gap n) x n <;> simp [h1, h2]
  exact (it_first h n).1
set_option maxRecDepth 100000 in
set_option maxHeartbeats 20000000 in
theorem bnd_core (hR : KRes 11) (hO : KOff 20) (p : Option Addr) (n0 c0 : Nat) (f : Nat → Int) (W : World) (hnc : n0 ≤ c0) (hr : Reads W p n0 f) (hf : ∀ k, -9223372036854775808 ≤ f k ∧ f k ≤ 9223372036854775807) (av : Int) :
    Calls Try.prog 5 #[.slice p n0 c0, .int .i64 av] W fun e w' => e = .returned (.bool true) ∧ Below W.heap.size W w' := by
  by_cases h1 : av < 0
  · clear hR hO hr
    have d1 : decide (av < 0) = true := decide_eq_true h1
    go_enter Try.func5, Try.ntmps5
    go_wp2_with fail
    go_ret
    exact ⟨rfl, Below.refl _ _⟩
  have d1 : decide (av < 0) = false := decide_eq_false h1
  by_cases h2 : 1048576 < av
  · clear hR hO hr
    have d2 : decide (1048576 < av) = true := decide_eq_true h2
    go_enter Try.func5, Try.ntmps5
    go_wp2_with fail
    go_ret
    exact ⟨rfl, Below.refl _ _⟩
  have d2 : decide (1048576 < av) = false := decide_eq_false h2
  have A := hide (fun w' => bawake_any hR hO w')
  have KR := hide hR
  have K0 := hide (New_any p n0 c0 W hnc (fun h => by obtain ⟨b, off, e, _⟩ := hr h; exact ⟨_, e⟩))
  clear hR hO
  go_enter Try.func5, Try.ntmps5
  go_wp2_with fail
  refine K0.out.mono ?_
  rintro e w1 ⟨sb, m, c', rfl, G1, hsb, ⟨hm1, hm2⟩, B1⟩
  have S1 : Hid (SR W w1 sb p m c' f) := ⟨G1, hsb, fun h0 => by
    obtain ⟨b, off, e, hc⟩ := hr (by omega)
    exact ⟨b, off, e, fun k hk => hc k (by omega)⟩, hm2, hf, 0, Nat.zero_le _, B1⟩
  have G1 := hide G1
  have hsb := hide hsb
  clear B1 K0 hr hnc
  have K1 := hide (elements_any W w1 sb m c' p f S1.out)
  go_wp2_with fail
  refine K1.out.mono ?_
  rintro e w2 ⟨v, n, x, rfl, hn, hx, hown, BT, -⟩
  obtain ⟨q2, cap, rfl, hcap, hs⟩ := own_srow hown
  have G2 := hide (BT.grew G1.out hsb.out)
  have B2 : Hid (Below W.heap.size W w2) := G2.out.1
  have e0 : erR av 3 x n = 0 := er_ok (by omega) (by omega) (by omega) hx
  have H1 := KR.out av 3 q2 n cap x w2 hs (by omega)
  simp only [e0, if_true, eq_self_iff_true] at H1
  replace H1 := hide H1
  have hs := hide hs
  clear KR K1 S1 G1 G2 hsb hown BT e0 hm1 hm2 hx
  go_wp2_with fail
  refine H1.out.mono ?_
  rintro e w3 ⟨q3, d3, rfl, R3, h⟩
  have B3 : Hid (Below W.heap.size W w3) := B2.out.trans (h.mono B2.out.size)
  have S3 : Hid (SRow w3 q2 n 5 (fxC x)) := hs.out.below h
  have R3 : Hid (Reads w3 q3 n (resF av 3 x n)) := R3
  clear h B2 hs H1
  go_wp2_with fail
  go_loopg [8] (n + 1) (fun g1 vk wr => ∃ k : Nat, vk = .int .i64 (k : Int) ∧ k ≤ n ∧ n - k < g1 ∧ Hid (Below W.heap.size W wr) ∧ Hid (SRow wr q2 n 5 (fxC x)) ∧ Hid (Reads wr q3 n (resF av 3 x n)))
  case atStart => exact ⟨0, by go_num, by omega, by omega, B3, S3, R3⟩
  case round =>
    clear B3 S3 R3
    obtain ⟨wo, rfl⟩ : ∃ wo : World, wo = wr := ⟨_, rfl⟩
    obtain ⟨k, rfl, hk, hg, B, S, R⟩ := hrel
    by_cases hlt : k < n
    · have hltz : (k : Int) < (n : Int) := by omega
      have ⟨l1, l2, l3⟩ := res_cl av 3 x n k
      have ln := res_nat av 3 x n k
      obtain ⟨b3, o3, rfl, r3⟩ := R.out (by omega)
      obtain ⟨b2, o2, rfl, hb2, r2⟩ := S.out (by omega)
      have ca : wo.cell? ⟨b3, o3 + k, none⟩ = some (.int .i64 (resF av 3 x n k)) := r3 k hlt
      have c0 : wo.cell? ⟨b2, o2 + k * 5, none⟩ = some (.int .i64 (x k).ba) := r2 k hlt 0 (by decide)
      have c1 : wo.cell? ⟨b2, o2 + k * 5 + 1, none⟩ = some (.int .i64 (x k).mn) := r2 k hlt 1 (by decide)
      have c2 : wo.cell? ⟨b2, o2 + k * 5 + 2, none⟩ = some (.int .i64 (x k).mx) := r2 k hlt 2 (by decide)
      have c3 : wo.cell? ⟨b2, o2 + k * 5 + 3, none⟩ = some (.int .i64 (x k).gr) := r2 k hlt 3 (by decide)
      have c4 : wo.cell? ⟨b2, o2 + k * 5 + 4, none⟩ = some (.int .i64 (x k).sh) := r2 k hlt 4 (by decide)
      have NB : Hid (∀ q, Hid (Below W.heap.size W (wo.drewN q))) := fun q => ⟨B.out.os, B.out.tape, B.out.output, B.out.size, B.out.block⟩
      have NS : Hid (∀ q, Hid (SRow (wo.drewN q) (some ⟨b2, o2, none⟩) n 5 (fxC x))) := fun q => S.out
      have NR : Hid (∀ q, Hid (Reads (wo.drewN q) (some ⟨b3, o3, none⟩) n (resF av 3 x n))) := fun q => R.out
      have N2 : Hid (∀ a b q, (wo.drewN a).drewN b = q → wo.drewN (a + b) = q) := fun a b q h => by rw [← h, World.drewN_drewN]
      have cc : Hid (∀ q, (wo.drewN q).cell? ⟨b3, o3 + k, none⟩ = some (.int .i64 (resF av 3 x n k)) ∧ (wo.drewN q).cell? ⟨b2, o2 + k * 5, none⟩ = some (.int .i64 (x k).ba) ∧ (wo.drewN q).cell? ⟨b2, o2 + k * 5 + 1, none⟩ = some (.int .i64 (x k).mn) ∧ (wo.drewN q).cell? ⟨b2, o2 + k * 5 + 2, none⟩ = some (.int .i64 (x k).mx) ∧ (wo.drewN q).cell? ⟨b2, o2 + k * 5 + 3, none⟩ = some (.int .i64 (x k).gr) ∧ (wo.drewN q).cell? ⟨b2, o2 + k * 5 + 4, none⟩ = some (.int .i64 (x k).sh)) := fun q => ⟨ca, c0, c1, c2, c3, c4⟩
      clear B S R r2 r3 c0 c3 c4
      generalize resF av 3 x n k = y at *
      generalize (x k).ba = xa at *
      generalize (x k).mn = xm at *
      generalize (x k).mx = xM at *
      generalize (x k).gr = xg at *
      generalize (x k).sh = xs at *
      have t1 : ¬ y < xm := by omega
      have t2 : decide (y < xm) = false := decide_eq_false t1
      by_cases hmm : xm ≤ xM
      · skip
        have t3 : decide (xm ≤ xM) = true := decide_eq_true hmm
        have t4 : ¬ xM < y := by have := l2 hmm; omega
        have t5 : decide (xM < y) = false := decide_eq_false t4
        have t6 : ¬ xM < xm := by omega
        have t7 : decide (xM < xm) = false := decide_eq_false t6
        go_wp2_with fail
        go_quiet (fail)
        obtain ⟨j0, hj0⟩ : ∃ j0, j0 = nq := ⟨_, rfl⟩
        rw [← hj0]
        clear hj0
        obtain ⟨ca, c0, c1, c2, c3, c4⟩ := cc.out j0
        clear t1 t2 t3 t6 t7 l1 l2 l3 t4 t5
        obtain ⟨w7, hw7⟩ : ∃ w7, w7 = wo.drewN j0 := ⟨_, rfl⟩
        rw [← hw7] at ca c0 c1 c2 c3 c4 ⊢
        replace hw7 : Hid (wo.drewN j0 = w7) := hw7.symm
        by_cases hgr : xg = 0
        · by_cases hsh : xs = 0
          · have u1 : (xg == 0) = true := by simpa using hgr
            have u2 : (xs == 0) = true := by simpa using hsh
            have ly := ln hgr hsh
            have u4 : (y == clampS xa xm xM) = true := by simpa using ly
            clear ln
            go_wp2_with fail
            go_quiet ((go_at_call 18; exact Calls.quiet_of_same (rClamp_back _ _ _ _)))
            have NB := NB.out (j0 + nq)
            have NS := NS.out (j0 + nq)
            have NR := NR.out (j0 + nq)
            rw [← World.drewN_drewN] at NB NS NR
            rw [hw7.out] at NB NS NR
            clear ca c0 c1 c2 c3 c4 cc
            generalize w7.drewN nq = w8 at *
            go_wp2_with fail
            go_roundg (n - k)
            case measure => omega
            case rel => exact ⟨k + 1, by go_num, by omega, by omega, NB, NS, NR⟩
          · have u1 : (xg == 0) = true := by simpa using hgr
            have u2 : (xs == 0) = false := by simpa using hsh
            have u3 : ¬ xs = 0 := hsh
            clear ln
            go_wp2_with fail
            go_quiet (fail)
            have NB := NB.out (j0 + nq)
            have NS := NS.out (j0 + nq)
            have NR := NR.out (j0 + nq)
            rw [← World.drewN_drewN] at NB NS NR
            rw [hw7.out] at NB NS NR
            clear ca c0 c1 c2 c3 c4 cc
            generalize w7.drewN nq = w8 at *
            go_wp2_with fail
            go_roundg (n - k)
            case measure => omega
            case rel => exact ⟨k + 1, by go_num, by omega, by omega, NB, NS, NR⟩
        · have u1 : (xg == 0) = false := by simpa using hgr
          have u2 : ¬ xg = 0 := hgr
          clear ln
          go_wp2_with fail
          go_quiet (fail)
          have NB := NB.out (j0 + nq)
          have NS := NS.out (j0 + nq)
          have NR := NR.out (j0 + nq)
          rw [← World.drewN_drewN] at NB NS NR
          rw [hw7.out] at NB NS NR
          clear ca c0 c1 c2 c3 c4 cc
          generalize w7.drewN nq = w8 at *
          go_wp2_with fail
          go_roundg (n - k)
          case measure => omega
          case rel => exact ⟨k + 1, by go_num, by omega, by omega, NB, NS, NR⟩
      · skip
        have t3 : decide (xm ≤ xM) = false := decide_eq_false hmm
        have t6 : xM < xm := by omega
        have t7 : decide (xM < xm) = true := decide_eq_true t6
        have ly0 := l3 t6
        have t8 : (y == xm) = true := by simpa using ly0
        go_wp2_with fail
        go_quiet (fail)
        obtain ⟨j0, hj0⟩ : ∃ j0, j0 = nq := ⟨_, rfl⟩
        rw [← hj0]
        clear hj0
        obtain ⟨ca, c0, c1, c2, c3, c4⟩ := cc.out j0
        clear t1 t2 t3 t6 t7 l1 l2 l3 t8 ly0
        obtain ⟨w7, hw7⟩ : ∃ w7, w7 = wo.drewN j0 := ⟨_, rfl⟩
        rw [← hw7] at ca c0 c1 c2 c3 c4 ⊢
        replace hw7 : Hid (wo.drewN j0 = w7) := hw7.symm
        by_cases hgr : xg = 0
        · by_cases hsh : xs = 0
          · have u1 : (xg == 0) = true := by simpa using hgr
            have u2 : (xs == 0) = true := by simpa using hsh
            have ly := ln hgr hsh
            have u4 : (y == clampS xa xm xM) = true := by simpa using ly
            clear ln
            go_wp2_with fail
            go_quiet ((go_at_call 18; exact Calls.quiet_of_same (rClamp_back _ _ _ _)))
            have NB := NB.out (j0 + nq)
            have NS := NS.out (j0 + nq)
            have NR := NR.out (j0 + nq)
            rw [← World.drewN_drewN] at NB NS NR
            rw [hw7.out] at NB NS NR
            clear ca c0 c1 c2 c3 c4 cc
            generalize w7.drewN nq = w8 at *
            go_wp2_with fail
            go_roundg (n - k)
            case measure => omega
            case rel => exact ⟨k + 1, by go_num, by omega, by omega, NB, NS, NR⟩
          · have u1 : (xg == 0) = true := by simpa using hgr
            have u2 : (xs == 0) = false := by simpa using hsh
            have u3 : ¬ xs = 0 := hsh
            clear ln
            go_wp2_with fail
            go_quiet (fail)
            have NB := NB.out (j0 + nq)
            have NS := NS.out (j0 + nq)
            have NR := NR.out (j0 + nq)
            rw [← World.drewN_drewN] at NB NS NR
            rw [hw7.out] at NB NS NR
            clear ca c0 c1 c2 c3 c4 cc
            generalize w7.drewN nq = w8 at *
            go_wp2_with fail
            go_roundg (n - k)
            case measure => omega
            case rel => exact ⟨k + 1, by go_num, by omega, by omega, NB, NS, NR⟩
        · have u1 : (xg == 0) = false := by simpa using hgr
          have u2 : ¬ xg = 0 := hgr
          clear ln
          go_wp2_with fail
          go_quiet (fail)
          have NB := NB.out (j0 + nq)
          have NS := NS.out (j0 + nq)
          have NR := NR.out (j0 + nq)
          rw [← World.drewN_drewN] at NB NS NR
          rw [hw7.out] at NB NS NR
          clear ca c0 c1 c2 c3 c4 cc
          generalize w7.drewN nq = w8 at *
          go_wp2_with fail
          go_roundg (n - k)
          case measure => omega
          case rel => exact ⟨k + 1, by go_num, by omega, by omega, NB, NS, NR⟩
    · have hltz : ¬ (k : Int) < (n : Int) := by omega
      clear R S
      go_wp2_with fail
      refine (A.out wo).mono ?_
      rintro e wz ⟨rfl, h⟩
      have BZ : Hid (Below W.heap.size W wz) := B.out.trans (h.mono B.out.size)
      clear h B
      go_wp2_with fail
      go_ret
      exact ⟨rfl, BZ.out⟩
end Go.Proofs.Ytjaapdkhjgolfaa
