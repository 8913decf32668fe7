/- The law FixedShareSums returns true for every integer and every slice of integers, and leaves the arguments and all old memory as they were; no condition. -/
import Derived.Test.YtdalcmdmkofjhaaRows
import Derived.Test.YtdalcmdmkofjhaaFxParts
import Derived.WalkKit
import Derived.ProofKit
import Derived.OpenShut
namespace Go.Proofs.Ytdalcmdmkofjhaa.fixedShareSums
open Go.ChangeShapes Go.WideShapes Go.ChangeAt Go.RowKit
set_option linter.unusedVariables false

/-- All of the first n weights are within the law's own range. -/
def Small (f : Nat → Int) (n : Nat) : Prop := ∀ k, k < n → 0 ≤ f k ∧ f k ≤ 1048576
theorem prod_small {x y A B : Int} (h1 : 0 ≤ x) (h2 : x ≤ A) (h3 : 0 ≤ y) (h4 : y ≤ B) : 0 ≤ x * y ∧ x * y ≤ A * B :=
  ⟨Int.mul_nonneg h1 h3, Int.le_trans (Int.mul_le_mul_of_nonneg_right h2 h3) (Int.mul_le_mul_of_nonneg_left h4 (Int.le_trans h1 h2))⟩

set_option maxHeartbeats 4000000 in
set_option maxRecDepth 100000 in
theorem walk_main (total : Int) (b off : Nat) (n c : Nat) (f : Nat → Int) (w : World) (hn : 0 < n) (h100 : n ≤ 100) (h0 : 0 ≤ total) (h1 : total ≤ 1048576) (hr : Reads w (some ⟨b, off, none⟩) n f) :
    Calls Try.prog 8 #[.int .i64 total, .slice (some ⟨b, off, none⟩) n c] w fun e w' => e = .returned (.bool true) ∧ Below w.heap.size w w' := by
  have C := hide (fun hg => share_ok total (some ⟨b, off, none⟩) n c f w hr ⟨h100, h0, by omega, hg⟩)
  have A := hide awake_any
  have HR := hide hr
  have HX : Hid (∀ k, k < n → w.cell? ⟨b, off + k, none⟩ = some (.int .i64 (f k))) := by
    obtain ⟨b', off', e, hc⟩ := hr hn
    simp only [Option.some.injEq, Addr.mk.injEq] at e
    obtain ⟨rfl, rfl, _⟩ := e
    exact hc
  clear hr
  have hz : ¬ (100 : Int) < (n : Int) := by omega
  go_enter Try.func8, Try.ntmps8
  go_wp2_with fail
  go_loop [5, 6] (fun vs vi => ∃ i : Nat, i ≤ n ∧ vi = .int .i64 i ∧ vs = .int .i64 (sumF f i) ∧ Hid (Small f i)) (fun _ vi => n - (intOf vi).toNat)
  case atStart => exact ⟨0, Nat.zero_le _, by go_num, rfl, fun k hk => absurd hk (Nat.not_lt_zero _)⟩
  case round =>
    obtain ⟨i, hi, rfl, rfl, HS⟩ := hrel
    by_cases hlt : i < n
    · have hltz : (i : Int) < (n : Int) := by omega
      have ci := HX.out i hlt
      by_cases hs : 0 ≤ f i ∧ f i ≤ 1048576
      · have HS' : Hid (Small f (i + 1)) := fun k hk => by
          rcases Nat.lt_or_ge k i with h | h
          · exact HS.out k h
          · obtain rfl : k = i := by omega
            exact hs
        have E : Hid (sumF f (i + 1) = sumF f i + f i) := rfl
        have sb := sumF_bound (B := 1048576) i HS.out
        obtain ⟨s1, s2⟩ := sb
        obtain ⟨hs1, hs2⟩ := hs
        clear HS
        go_wp2_with fail
        go_round
        case rel => exact ⟨i + 1, by omega, by go_num, by rw [E.out], HS'⟩
        case measure => simp [intOf]; omega
      · have hs' : f i < 0 ∨ 1048576 < f i := by omega
        clear hs HS
        rcases hs' with hs' | hs'
        all_goals
          go_wp2_with fail
          go_ret
          exact ⟨rfl, Below.refl _ _⟩
    · have hltz : ¬ (i : Int) < (n : Int) := by omega
      obtain rfl : n = i := by omega
      have hg : Good f n := fun k hk => ⟨(HS.out k hk).1, by have := (HS.out k hk).2; omega⟩
      have C := hide (C.out hg)
      have HG := hide hg
      have sb := sumF_bound (B := 1048576) n HS.out
      obtain ⟨S, hS⟩ : ∃ S, S = sumF f n := ⟨_, rfl⟩
      rw [← hS] at sb ⊢
      have HSS := hide hS
      obtain ⟨sb1, sb2⟩ := sb
      have sb3 : S ≤ 104857600 := by omega
      clear hg hS
      go_wp2_with fail
      refine C.out.mono ?_
      rintro e w1 ⟨rfl, hB, P, hP, hrow⟩
      have B1 := hide hB
      have HC : Hid (∀ k, k < n → w1.cell? ⟨b, off + k, none⟩ = some (.int .i64 (f k))) := fun k hk => (hB.cell (p := ⟨b, off + k, none⟩) (lt_of_cell (HX.out k hk))).trans (HX.out k hk)
      have HP : Hid (∀ k, k < n → w1.cell? ⟨w.heap.size, k, none⟩ = some (.int .i64 (P k))) := fun k hk => hrow.cell hk
      have HPP := hide hP
      clear hB hP hrow C HR HX sb2
      go_wp2_with fail
      go_loopg [9, 10] (n + 1) (fun g1 vn vi wr => ∃ i j : Nat, vi = .int .i64 i ∧ vn = .int .i64 (sumF P i) ∧ i ≤ n ∧ n - i < g1 ∧ Hid (wr = w1.drewN j))
      case atStart => exact ⟨0, 0, by go_num, rfl, by omega, by omega, rfl⟩
      case round =>
        obtain ⟨wa, rfl⟩ : ∃ wa : World, wa = wr := ⟨_, rfl⟩
        obtain ⟨i, j, rfl, rfl, hi, hg, HW⟩ := hrel
        by_cases hlt : i < n
        · have hltz : (i : Int) < (n : Int) := by omega
          have c1 : wa.cell? ⟨b, off + i, none⟩ = some (.int .i64 (f i)) := by rw [HW.out]; exact HC.out i hlt
          have c2 : wa.cell? ⟨w.heap.size, i, none⟩ = some (.int .i64 (P i)) := by rw [HW.out]; exact HP.out i hlt
          obtain ⟨p1, p2, p3, p4⟩ := HPP.out.bounds h0 HG.out hlt
          rw [← HSS.out] at p4
          have f1 := (HS.out i hlt).1
          have f2 := (HS.out i hlt).2
          obtain ⟨m1, m2⟩ := prod_small p1 (show P i ≤ 1048576 by omega) sb1 sb3
          obtain ⟨m3, m4⟩ := prod_small h0 h1 f1 f2
          have ew1 : IntKind.i64.wrap (P i * S) = P i * S := wrap_in (by omega)
          have ew2 : IntKind.i64.wrap (total * f i) = total * f i := wrap_in (by omega)
          have ew3 : IntKind.i64.wrap (P i * S - total * f i) = P i * S - total * f i := wrap_in (by omega)
          have nb := sumF_bound (B := 1048576) i (fun k hk => ⟨(HPP.out.bounds h0 HG.out (show k < n by omega)).1, by have := (HPP.out.bounds h0 HG.out (show k < n by omega)).2.1; omega⟩)
          obtain ⟨nb1, nb2⟩ := nb
          have E : Hid (sumF P (i + 1) = sumF P i + P i) := rfl
          have P4 := hide p4
          have P3 := hide p3
          clear p3 p4
          go_wp2_with fail
          go_quiet (fail)
          have HW' : Hid (wa.drewN nq = w1.drewN (j + nq)) := by show _ = _; rw [HW.out, World.drewN_drewN]
          have c1' : (wa.drewN nq).cell? ⟨b, off + i, none⟩ = some (.int .i64 (f i)) := c1
          have c2' : (wa.drewN nq).cell? ⟨w.heap.size, i, none⟩ = some (.int .i64 (P i)) := c2
          clear c1 c2 HW ew1 ew2 ew3
          generalize wa.drewN nq = w2 at HW' c1' c2' ⊢
          generalize P i * S = X at *
          generalize total * f i = Y at *
          by_cases hz0 : f i = 0
          · have pz := P3.out hz0
            have d1 : (f i == 0) = true := by rw [hz0]; rfl
            have d2 : (P i != 0) = false := by rw [pz]; rfl
            clear hz0 pz P3
            rcases (show S = 0 ∨ 0 < S by omega) with hS0 | hS0
            · have d3 : decide (0 < S) = false := decide_eq_false (by omega)
              clear P4 hS0
              go_wp2_with fail
              go_roundg (n - i)
              case measure => omega
              case rel => exact ⟨i + 1, j + nq, by go_num, by rw [E.out], by omega, by omega, HW'⟩
            · obtain ⟨p4, p5⟩ := P4.out hS0
              clear P4
              go_wp2_with fail
              go_roundg (n - i)
              case measure => omega
              case rel => exact ⟨i + 1, j + nq, by go_num, by rw [E.out], by omega, by omega, HW'⟩
          · have d1 : (f i == 0) = false := by simpa using hz0
            clear hz0 P3
            rcases (show S = 0 ∨ 0 < S by omega) with hS0 | hS0
            · have d3 : decide (0 < S) = false := decide_eq_false (by omega)
              clear P4 hS0
              go_wp2_with fail
              go_roundg (n - i)
              case measure => omega
              case rel => exact ⟨i + 1, j + nq, by go_num, by rw [E.out], by omega, by omega, HW'⟩
            · obtain ⟨p4, p5⟩ := P4.out hS0
              clear P4
              go_wp2_with fail
              go_roundg (n - i)
              case measure => omega
              case rel => exact ⟨i + 1, j + nq, by go_num, by rw [E.out], by omega, by omega, HW'⟩
        · have hltz : ¬ (i : Int) < (n : Int) := by omega
          obtain rfl : n = i := by omega
          have ps := HPP.out.sum HG.out
          rw [← HSS.out] at ps
          have B0 : Hid (Below w.heap.size w wa) := by
            rw [HW.out]
            exact ⟨B1.out.os, B1.out.tape, B1.out.output, B1.out.size, B1.out.block⟩
          rcases ps with ⟨z1, z2⟩ | ⟨z1, z2⟩
          · rw [z2]
            have d1 : (S == 0) = true := by rw [z1]; rfl
            have d2 : decide (0 < S) = false := decide_eq_false (by omega)
            clear z1 z2 HW B1
            go_wp2_with fail
            refine (A.out _).mono ?_
            rintro e w2 ⟨rfl, hB⟩
            have B2 := hide (B0.out.trans (hB.mono B0.out.size))
            clear hB B0
            go_wp2
            go_ret
            exact ⟨rfl, B2.out⟩
          · rw [z2]
            have d1 : (S == 0) = false := by simp; omega
            clear z2 HW B1
            go_wp2_with fail
            refine (A.out _).mono ?_
            rintro e w2 ⟨rfl, hB⟩
            have B2 := hide (B0.out.trans (hB.mono B0.out.size))
            clear hB B0
            go_wp2
            go_ret
            exact ⟨rfl, B2.out⟩

set_option maxHeartbeats 1000000 in
theorem walk_none (total : Int) (q : Option Addr) (c : Nat) (f : Nat → Int) (w : World) (h0 : 0 ≤ total) (h1 : total ≤ 1048576) (hr : Reads w q 0 f) :
    Calls Try.prog 8 #[.int .i64 total, .slice q 0 c] w fun e w' => e = .returned (.bool true) ∧ Below w.heap.size w w' := by
  have C := hide (share_ok total q 0 c f w hr ⟨by omega, h0, by omega, fun k hk => absurd hk (Nat.not_lt_zero _)⟩)
  have A := hide awake_any
  clear hr
  go_enter Try.func8, Try.ntmps8
  go_wp2_with fail
  refine wp_loop_rounds 1 ?_
  rw [rounds_succ]
  go_wp2_with fail
  refine C.out.mono ?_
  rintro e w1 ⟨rfl, hB, _⟩
  have B1 := hide hB
  clear hB C
  go_wp2_with fail
  refine wp_loop_rounds 1 ?_
  rw [rounds_succ]
  go_wp2_with fail
  refine (A.out _).mono ?_
  rintro e w2 ⟨rfl, hB⟩
  have B2 := hide (B1.out.trans (hB.mono B1.out.size))
  clear hB B1
  go_wp2
  go_ret
  exact ⟨rfl, B2.out⟩

theorem walk (total : Int) (w0 : (Lit.int .i64 total).wf = true) (q : Option Addr) (n c : Nat) (f : Nat → Int) (hc : n ≤ c) (hn : n ≤ 9223372036854775807) {w : World} (hr : Reads w q n f) (hf : ∀ k, -9223372036854775808 ≤ f k ∧ f k ≤ 9223372036854775807) (_ : World) :
    Calls Try.prog 8 #[.int .i64 total, .slice q n c] w fun e w' => e = .returned (.bool true) ∧ Below w.heap.size w w' := by
  clear hf
  by_cases hb : (0 ≤ total ∧ total ≤ 1048576) ∧ n ≤ 100
  · obtain ⟨⟨h0, h1⟩, h100⟩ := hb
    rcases Nat.eq_zero_or_pos n with rfl | hp
    · exact walk_none total q c f w h0 h1 hr
    · obtain ⟨b, off, rfl, _⟩ := id hr hp
      exact walk_main total b off n c f w hp h100 h0 h1 hr
  · have hb' : (total < 0 ∨ 1048576 < total) ∨ ((0 ≤ total ∧ total ≤ 1048576) ∧ 100 < n) := by omega
    clear hr w0 hb
    rcases hb' with (h | h) | ⟨⟨h0, h1⟩, h⟩
    · go_enter Try.func8, Try.ntmps8
      go_wp2
      all_goals go_ret
      all_goals exact ⟨rfl, Below.refl _ _⟩
    · go_enter Try.func8, Try.ntmps8
      go_wp2
      all_goals go_ret
      all_goals exact ⟨rfl, Below.refl _ _⟩
    · have hz : (100 : Int) < (n : Int) := by omega
      go_enter Try.func8, Try.ntmps8
      go_wp2
      all_goals go_ret
      all_goals exact ⟨rfl, Below.refl _ _⟩

set_option maxRecDepth 100000 in
theorem lifted (os : Os) (started : os.Started) (H : Type) (enc : TypeId × Value → H) :
    ReturnsInHanded {} Try.checked os 8 .any (Rows.fixedShareSumsSpec.pre6 enc Try.prog Try.f8 Rows.fixedShareSumsRow.domain false) (Rows.fixedShareSumsSpec.post enc Try.prog Try.f8 false true false false) := by
  refine returnsInHanded_of_change (C := Try.checked) own_knob started (by kernel_rfl) Try.func8
    (ChangeSpec.witness6 (enc := enc) (C := Try.checked) false ⟨#[], #[.int .i64 0, .slice none 0 0], []⟩ 8 (by kernel_rfl) (by kernel_rfl) (by kernel_rfl) (by kernel_rfl)) ?_
  intro W base args ds gs before hval0 hW hcnd _
  have hval : ∀ (j : Nat) t v, Try.f8.params[j]? = some t → args[j]? = some v → Value.okWide Try.prog W .any base t v := hval0
  have hW' := hW
  obtain ⟨p, q, hA0, hV, rfl, hfz, hnd⟩ := hW
  have hA : DataW.TrodAll enc Try.prog W 0 (fun _ => true) true Try.f8.params.toList args.toList ds p := hA0
  have hAk := hA
  rw [Try.params8] at hA hval
  obtain ⟨v0, vs0, d0, ds0, p0, q0, hargs, rfl, rfl, h0, r0⟩ := trodAll_cons hA
  obtain ⟨v1, vs1, d1, ds1, p1, q1, rfl, rfl, rfl, h1, r1⟩ := trodAll_cons r0
  obtain ⟨rfl, rfl, rfl⟩ := trodAll_nil r1
  obtain rfl : args = #[v0, v1] := by cases args; simp_all
  obtain ⟨rfl, rfl⟩ := trodVars_none hV
  obtain ⟨a0, rfl, rfl, rfl, w0⟩ := open_int Try.underlying3 (hval 0 3 v0 rfl rfl) h0
  obtain ⟨s1, n1, c1, f1, rfl, hc1, hn1, hr1, hf1⟩ := open_slice (hval 1 30 v1 rfl rfl) h1
  clear hA0 hval0
  simp only [List.append_nil] at hW'
  refine (walk a0 w0 s1 n1 c1 f1 hc1 hn1 hr1 hf1 W).mono fun e W' ⟨he, hg⟩ => ?_
  subst he
  have hargs' := kept_all hg _ _ _ _ (by rw [Try.params8]; intro t ht; simp only [List.mem_cons, List.not_mem_nil, or_false] at ht; (repeat' (rcases ht with rfl | ht)); all_goals first | (subst ht; exact ⟨by kernel_rfl, of_decide_eq_true (by kernel_rfl)⟩) | exact ⟨by kernel_rfl, of_decide_eq_true (by kernel_rfl)⟩) hAk (fun x hx => hW'.lt x (by simpa using hx))
  exact ⟨_, rfl, ⟨_, _, _, [], _, [], hW', trodAll_cons_mk (shut_bool Try.underlying4 _) trodAll_mk0, hargs', rfl, World.keptBut_mono (fun p hp => ⟨hp, Or.inr (by simpa using hp)⟩) (hg.frame _), fun h => by cases h⟩⟩

theorem over : Rows.fixedShareSumsRow.holds Try.pinned (OpenSpec.ofChange Rows.fixedShareSumsSpec) :=
  OpenClaim.holds_of_wide 8 Try.f8 rfl rfl rfl rfl rfl rfl rfl ⟨rfl, rfl, rfl, rfl, rfl⟩ rfl rfl rfl rfl rfl (by kernel_rfl) Try.func8 (by kernel_rfl)
    (of_decide_eq_true (by kernel_rfl)) (by unfold Func.isWrapper; first | (rw [if_pos (by decide +kernel)]; kernel_rfl) | (rw [if_neg (by decide +kernel)]; exact ⟨rfl, rfl⟩))
    (fun os started H enc _ => lifted os started H enc)

theorem proved : Rows.FixedShareSumsSaid :=
  over
#print axioms proved
end Go.Proofs.Ytdalcmdmkofjhaa.fixedShareSums
