/- What the law GridTiles runs, where Place and Tracks answer as the chapter asks; no other condition. -/
import Derived.Test.YtdoenkngmgclmaaGdTi1
import Derived.Test.YtdoenkngmgclmaaGdTi2
import Derived.Test.YtdoenkngmgclmaaGdTi3
import Derived.Test.YtdoenkngmgclmaaGdTi4
import Derived.Test.YtdoenkngmgclmaaGdTi5
namespace Go.Proofs.Ytdoenkngmgclmaa
open Go.RowKit Go.Sort
set_option linter.unusedVariables false
set_option linter.unusedSimpArgs false

set_option maxRecDepth 100000 in
set_option maxHeartbeats 20000000 in
theorem gti_core (hT : KTr 16) (hP : KPl 9) (cols : Int) (p : Option Addr) (n c : Nat) (f : Nat → Int) (W : World) (H : Reads W p n f) (hn : n ≤ 9223372036854775807) :
    Calls Try.prog 4 #[.int .i64 cols, .slice p n c] W fun e w' => e = .returned (.bool true) ∧ Below W.heap.size W w' := by
  by_cases h1 : 100 < n
  · clear hT hP H
    have hz : (100 : Int) < (n : Int) := by omega
    go_enter Try.func4, Try.ntmps4
    go_wp2_with fail
    go_ret
    exact ⟨rfl, Below.refl _ _⟩
  have hz : ¬ (100 : Int) < (n : Int) := by omega
  have A := hide (fun w' => gawake_any hT hP w')
  have v1 : IntKind.i64.wrap (1 + cols % 16) = 1 + cols % 16 := wr (by omega) (by omega)
  have hc1 : 1 ≤ 1 + cols % 16 := by omega
  have hc2 : 1 + cols % 16 ≤ 16 := by omega
  have K1 := hP (1 + cols % 16) p n c f W H (by omega)
  rw [pl_some (by omega)] at K1
  replace K1 := hide K1
  clear hT hP H
  go_enter Try.func4, Try.ntmps4
  go_wp2_with fail
  clear v1
  generalize 1 + cols % 16 = co at *
  refine K1.out.mono ?_
  rintro e w1 ⟨q, d, rfl, R1, B1⟩
  replace R1 := hide R1
  replace B1 := hide B1
  clear K1
  go_wp2_with fail
  go_loopg [6] (n + 1) (fun g1 vk wr => ∃ k : Nat, vk = .int .i64 (k : Int) ∧ k ≤ n ∧ n - k < g1 ∧ Hid (Below W.heap.size W wr) ∧ Hid (SRow wr q n 3 (arV co f)))
  case atStart => exact ⟨0, by go_num, by omega, by omega, B1, R1⟩
  case round =>
    clear B1 R1
    obtain ⟨wo, rfl⟩ : ∃ wo : World, wo = wr := ⟨_, rfl⟩
    obtain ⟨k, rfl, hk, hg, B, R⟩ := hrel
    by_cases hlt : k < n
    · have hltz : (k : Int) < (n : Int) := by omega
      have m3 : Hid (n - (k + 1) < n - k) := Nat.sub_lt_sub_left hlt (Nat.lt_succ_self k)
      obtain ⟨b, o, rfl, hb, r⟩ := R.out (by omega)
      have NB : Hid (∀ q, Hid (Below W.heap.size W (wo.drewN q))) := fun q => ⟨B.out.os, B.out.tape, B.out.output, B.out.size, B.out.block⟩
      have NR : Hid (∀ q, Hid (SRow (wo.drewN q) (some ⟨b, o, none⟩) n 3 (arV co f))) := fun q => R.out
      have N2 : Hid (∀ a b, (wo.drewN a).drewN b = wo.drewN (a + b)) := fun a b => World.drewN_drewN _ _ _
      have C0 : Hid (∀ q, (wo.drewN q).cell? ⟨b, o + k * 3, none⟩ = some (.int .i64 (arR co f k)) ∧ (wo.drewN q).cell? ⟨b, o + k * 3 + 1, none⟩ = some (.int .i64 (arC co f k)) ∧ (wo.drewN q).cell? ⟨b, o + k * 3 + 2, none⟩ = some (.int .i64 (spG co f k))) := fun q => ⟨r k hlt 0 (by decide), r k hlt 1 (by decide), r k hlt 2 (by decide)⟩
      have ab := ar_bd hc1 f k
      have sb := sp_bd hc1 f k
      rcases Nat.eq_zero_or_pos k with hk0 | hk0
      · subst hk0
        have az := ar_zero hc1 f
        have X : Hid (wo.cell? ⟨b, o, none⟩ = some (.int .i64 0) ∧ wo.cell? ⟨b, o + 1, none⟩ = some (.int .i64 0) ∧ wo.cell? ⟨b, o + 2, none⟩ = some (.int .i64 (spG co f 0))) := by
          obtain ⟨x0, x1, x2⟩ := C0.out 0
          simp only [Nat.zero_mul, Nat.add_zero] at x0 x1 x2
          rw [az.1] at x0
          rw [az.2] at x1
          exact ⟨x0, x1, x2⟩
        clear r B R C0 az ab
        generalize spG co f 0 = s at *
        go_wp2_with fail
        refine wp_as (c := tiR 10) (by kernel_rfl) ?_
        refine ti10_zero hltz sb.1 sb.2 hc2 X.out.1 X.out.2.1 X.out.2.2 ?_
        intro j0
        intros
        obtain ⟨w7, hw7⟩ : ∃ w7, w7 = wo.drewN j0 := ⟨_, rfl⟩
        rw [← hw7]
        replace hw7 : Hid (wo.drewN j0 = w7) := hw7.symm
        clear X
        go_wp2_with fail
        refine wp_as (c := tiR 12) (by kernel_rfl) ?_
        refine ti12_zero ?_
        intro j1
        intros
        have NB := NB.out (j0 + j1)
        have NR := NR.out (j0 + j1)
        rw [← N2.out, hw7.out] at NB NR
        generalize w7.drewN j1 = w8 at *
        go_wp2_with fail
        go_roundg (n - 0)
        case measure => exact hg
        case rel => exact ⟨0 + 1, by go_num, hlt, m3.out, NB, NR⟩
      · obtain ⟨m, rfl⟩ : ∃ m, k = m + 1 := ⟨k - 1, by omega⟩
        have D0 : Hid (∀ q, (wo.drewN q).cell? ⟨b, o + m * 3, none⟩ = some (.int .i64 (arR co f m)) ∧ (wo.drewN q).cell? ⟨b, o + m * 3 + 1, none⟩ = some (.int .i64 (arC co f m)) ∧ (wo.drewN q).cell? ⟨b, o + m * 3 + 2, none⟩ = some (.int .i64 (spG co f m))) := fun q => ⟨r m (by omega) 0 (by decide), r m (by omega) 1 (by decide), r m (by omega) 2 (by decide)⟩
        have an := ar_next co f m
        have ab2 := ar_bd hc1 f m
        have sb2 := sp_bd hc1 f m
        clear r B R
        generalize arR co f (m + 1) = R1 at *
        generalize arC co f (m + 1) = C1 at *
        generalize spG co f (m + 1) = S1 at *
        generalize arR co f m = R0 at *
        generalize arC co f m = C0' at *
        generalize spG co f m = S0 at *
        have hz1 : (m : Int) + 1 < (n : Int) := by omega
        have hn1 : n ≤ 100 := by omega
        obtain ⟨⟨ab1, ab3⟩, ab4, ab5⟩ := ab
        obtain ⟨⟨bb1, bb3⟩, bb4, bb5⟩ := ab2
        obtain ⟨sb1, sb3⟩ := sb
        obtain ⟨tb1, tb3⟩ := sb2
        go_wp2_with fail
        refine wp_as (c := tiR 10) (by kernel_rfl) ?_
        have X : Hid (wo.cell? ⟨b, o + (m + 1) * 3, none⟩ = some (.int .i64 R1) ∧ wo.cell? ⟨b, o + (m + 1) * 3 + 1, none⟩ = some (.int .i64 C1) ∧ wo.cell? ⟨b, o + (m + 1) * 3 + 2, none⟩ = some (.int .i64 S1)) := C0.out 0
        refine ti10_next hz1 ab4 sb1 ab5 hc2 X.out.1 X.out.2.1 X.out.2.2 ?_
        intro j0
        intros
        have E0 := hide (C0.out j0)
        have E1 := hide (D0.out j0)
        obtain ⟨w7, hw7⟩ : ∃ w7, w7 = wo.drewN j0 := ⟨_, rfl⟩
        rw [← hw7] at E0 E1 ⊢
        replace hw7 : Hid (wo.drewN j0 = w7) := hw7.symm
        clear C0 D0 X
        rcases an with ⟨n1, n2⟩ | ⟨n1, n2, n3⟩
        · subst n1
          subst n2
          go_wp2_with fail
          refine wp_as (c := tiR 12) (by kernel_rfl) ?_
          refine ti12_same hz1 hn1 bb4 tb1 (by omega) E0.out.1 E0.out.2.1 E0.out.2.2 E1.out.1 E1.out.2.1 E1.out.2.2 ?_
          intro j1
          intros
          have NB := NB.out (j0 + j1)
          have NR := NR.out (j0 + j1)
          rw [← N2.out, hw7.out] at NB NR
          clear E0 E1
          generalize w7.drewN j1 = w8 at *
          go_wp2_with fail
          go_roundg (n - (m + 1))
          case measure => exact hg
          case rel => exact ⟨m + 1 + 1, by go_num, hlt, m3.out, NB, NR⟩
        · subst n1
          subst n2
          go_wp2_with fail
          refine wp_as (c := tiR 12) (by kernel_rfl) ?_
          refine ti12_next hz1 hn1 bb1 (by omega) bb4 tb1 (by omega) sb1 (by omega) n3 E0.out.1 E0.out.2.1 E0.out.2.2 E1.out.1 E1.out.2.1 E1.out.2.2 ?_
          intro j1
          intros
          have NB := NB.out (j0 + j1)
          have NR := NR.out (j0 + j1)
          rw [← N2.out, hw7.out] at NB NR
          clear E0 E1
          generalize w7.drewN j1 = w8 at *
          go_wp2_with fail
          go_roundg (n - (m + 1))
          case measure => exact hg
          case rel => exact ⟨m + 1 + 1, by go_num, hlt, m3.out, NB, NR⟩
    · have hltz : ¬ (k : Int) < (n : Int) := by omega
      clear R
      go_wp2_with fail
      refine (A.out wo).mono ?_
      rintro e wz ⟨rfl, h⟩
      have BZ : Hid (Below W.heap.size W wz) := B.out.trans (h.mono B.out.size)
      clear h B
      go_wp2_with fail
      go_ret
      exact ⟨rfl, BZ.out⟩
end Go.Proofs.Ytdoenkngmgclmaa
