/- The law FixedShareOrder returns true for every integer and every slice of integers, and leaves the arguments and all old memory as they were; no condition. -/
import Derived.Test.YtdalcmdmkofjhaaRows
import Derived.Test.YtdalcmdmkofjhaaFxParts
import Derived.WalkKit
import Derived.ProofKit
import Derived.OpenShut
namespace Go.Proofs.Ytdalcmdmkofjhaa.fixedShareOrder
open Go.ChangeShapes Go.WideShapes Go.ChangeAt Go.RowKit
set_option linter.unusedVariables false

theorem walk_err (total : Int) (q : Option Addr) (n c : Nat) (f : Nat → Int) (w : World) (hn : n ≤ 100) (hr : Reads w q n f) (hb : ¬ InShare total f n) :
    Calls Try.prog 9 #[.int .i64 total, .slice q n c] w fun e w' => e = .returned (.bool true) ∧ Below w.heap.size w w' := by
  have C := share_err total q n c f w hr hb
  rw [if_neg (by omega)] at C
  have C := hide C
  have A := hide awake_any
  clear hr hb
  have hz : ¬ (100 : Int) < (n : Int) := by omega
  go_enter Try.func9, Try.ntmps9
  go_wp2_with fail
  refine C.out.mono ?_
  rintro e w' ⟨rfl, rfl⟩
  go_wp2_with fail
  refine (A.out _).mono ?_
  rintro e w' ⟨rfl, hB⟩
  have hB := hide hB
  go_wp2
  go_ret
  exact ⟨rfl, hB.out⟩

theorem walk_none (total : Int) (q : Option Addr) (c : Nat) (f : Nat → Int) (w : World) (hr : Reads w q 0 f) (hb : InShare total f 0) :
    Calls Try.prog 9 #[.int .i64 total, .slice q 0 c] w fun e w' => e = .returned (.bool true) ∧ Below w.heap.size w w' := by
  have C := hide (share_ok total q 0 c f w hr hb)
  have A := hide awake_any
  clear hr hb
  go_enter Try.func9, Try.ntmps9
  go_wp2_with fail
  refine C.out.mono ?_
  rintro e w1 ⟨rfl, hB, _⟩
  have B1 := hide hB
  clear hB C
  go_wp2_with fail
  refine wp_loop_rounds 1 ?_
  rw [rounds_succ]
  go_wp2_with fail
  refine (A.out _).mono ?_
  rintro e w2 ⟨rfl, hB⟩
  have B2 := hide (B1.out.trans (hB.mono B1.out.size))
  clear hB B1
  go_wp2
  go_ret
  exact ⟨rfl, B2.out⟩

set_option maxHeartbeats 4000000 in
set_option maxRecDepth 100000 in
theorem walk_main (total : Int) (b off : Nat) (n c : Nat) (f : Nat → Int) (w : World) (hn : 0 < n) (hr : Reads w (some ⟨b, off, none⟩) n f) (hb : InShare total f n) :
    Calls Try.prog 9 #[.int .i64 total, .slice (some ⟨b, off, none⟩) n c] w fun e w' => e = .returned (.bool true) ∧ Below w.heap.size w w' := by
  have C := hide (share_ok total (some ⟨b, off, none⟩) n c f w hr hb)
  have A := hide awake_any
  have h100 : n ≤ 100 := hb.1
  have h0 : 0 ≤ total := hb.2.1
  have HR := hide hr
  clear hr hb
  have hz : ¬ (100 : Int) < (n : Int) := by omega
  go_enter Try.func9, Try.ntmps9
  go_wp2_with fail
  refine C.out.mono ?_
  rintro e w1 ⟨rfl, hB, P, hP, hrow⟩
  have B1 := hide hB
  have HC : Hid (∀ k, k < n → w1.cell? ⟨b, off + k, none⟩ = some (.int .i64 (f k))) := by
    obtain ⟨b', off', e, hc⟩ := (HR.out.below hB) hn
    simp only [Option.some.injEq, Addr.mk.injEq] at e
    obtain ⟨rfl, rfl, _⟩ := e
    exact hc
  have HP : Hid (∀ k, k < n → w1.cell? ⟨w.heap.size, k, none⟩ = some (.int .i64 (P k))) := fun k hk => hrow.cell hk
  have HO : Hid (∀ i k, i < n → k < i → (f i ≤ f k → P i ≤ P k) ∧ (f k < f i → P k ≤ P i)) := fun i k hi hk => hP.order h0 hi hk
  clear hB hP hrow C HR
  go_wp2_with fail
  go_loopg [7] (n + 1) (fun g1 vi wr => ∃ i j : Nat, vi = .int .i64 i ∧ i ≤ n ∧ n - i < g1 ∧ Hid (wr = w1.drewN j))
  case atStart => exact ⟨0, 0, by go_num, by omega, by omega, rfl⟩
  case round =>
    obtain ⟨wa, rfl⟩ : ∃ wa : World, wa = wr := ⟨_, rfl⟩
    obtain ⟨i, j, rfl, hi, hg, HW⟩ := hrel
    by_cases hlt : i < n
    · have hltz : (i : Int) < (n : Int) := by omega
      go_wp2_with fail
      go_loopg [8] (i + 1) (fun g2 vk wr2 => ∃ k j : Nat, vk = .int .i64 k ∧ k ≤ i ∧ i - k < g2 ∧ Hid (wr2 = w1.drewN j))
      case atStart => exact ⟨0, j, by go_num, by omega, by omega, HW⟩
      case round =>
        obtain ⟨wb, rfl⟩ : ∃ wb : World, wb = wr := ⟨_, rfl⟩
        clear HW
        obtain ⟨k, j, rfl, hk, hg2, HW⟩ := hrel
        by_cases hlt2 : k < i
        · have hltz2 : (k : Int) < (i : Int) := by omega
          have kn : (k : Int) < (n : Int) := by omega
          have c1 : wb.cell? ⟨b, off + i, none⟩ = some (.int .i64 (f i)) := by rw [HW.out]; exact HC.out i hlt
          have c2 : wb.cell? ⟨b, off + k, none⟩ = some (.int .i64 (f k)) := by rw [HW.out]; exact HC.out k (by omega)
          have c3 : wb.cell? ⟨w.heap.size, i, none⟩ = some (.int .i64 (P i)) := by rw [HW.out]; exact HP.out i hlt
          have c4 : wb.cell? ⟨w.heap.size, k, none⟩ = some (.int .i64 (P k)) := by rw [HW.out]; exact HP.out k (by omega)
          have ho := HO.out i k hlt hlt2
          by_cases hle : f i ≤ f k
          · have o1 := ho.1 hle
            have d1 : decide (f i ≤ f k) = true := decide_eq_true hle
            have d2 : decide (P k < P i) = false := decide_eq_false (by omega)
            have d3 : decide (f k < f i) = false := decide_eq_false (by omega)
            clear ho
            go_wp2_with fail
            go_quiet (fail)
            have HW' : Hid (wb.drewN nq = w1.drewN (j + nq)) := by show _ = _; rw [HW.out, World.drewN_drewN]
            clear c1 c2 c3 c4 HW
            generalize wb.drewN nq = w2 at HW' ⊢
            go_wp2
            go_roundg (i - k)
            case measure => omega
            case rel => exact ⟨k + 1, j + nq, by go_num, by omega, by omega, HW'⟩
          · have o1 := ho.2 (by omega)
            have d1 : decide (f i ≤ f k) = false := decide_eq_false hle
            have d2 : decide (P i < P k) = false := decide_eq_false (by omega)
            have d3 : decide (f k < f i) = true := decide_eq_true (by omega)
            have d4 : f k < f i := by omega
            clear ho
            go_wp2_with fail
            go_quiet (fail)
            have HW' : Hid (wb.drewN nq = w1.drewN (j + nq)) := by show _ = _; rw [HW.out, World.drewN_drewN]
            clear c1 c2 c3 c4 HW
            generalize wb.drewN nq = w2 at HW' ⊢
            go_wp2
            go_roundg (i - k)
            case measure => omega
            case rel => exact ⟨k + 1, j + nq, by go_num, by omega, by omega, HW'⟩
        · have hltz2 : ¬ (k : Int) < (i : Int) := by omega
          go_wp2_with fail
          go_roundg (n - i)
          case measure => omega
          case rel => exact ⟨i + 1, j, by go_num, by omega, by omega, HW⟩
    · have hltz : ¬ (i : Int) < (n : Int) := by omega
      go_wp2_with fail
      refine (A.out _).mono ?_
      rintro e w2 ⟨rfl, hB⟩
      have B2 : Hid (Below w.heap.size w w2) := by
        rw [HW.out] at hB
        have h1 : Below w.heap.size w (w1.drewN j) := ⟨B1.out.os, B1.out.tape, B1.out.output, B1.out.size, B1.out.block⟩
        exact h1.trans (hB.mono B1.out.size)
      clear hB HW
      go_wp2
      go_ret
      exact ⟨rfl, B2.out⟩

theorem walk (total : Int) (w0 : (Lit.int .i64 total).wf = true) (q : Option Addr) (n c : Nat) (f : Nat → Int) (hc : n ≤ c) (hn : n ≤ 9223372036854775807) {w : World} (hr : Reads w q n f) (hf : ∀ k, -9223372036854775808 ≤ f k ∧ f k ≤ 9223372036854775807) (_ : World) :
    Calls Try.prog 9 #[.int .i64 total, .slice q n c] w fun e w' => e = .returned (.bool true) ∧ Below w.heap.size w w' := by
  by_cases hb : 100 < n
  · have hz : (100 : Int) < (n : Int) := by omega
    clear hr hf w0
    go_enter Try.func9, Try.ntmps9
    go_wp2
    go_ret
    exact ⟨rfl, Below.refl _ _⟩
  · by_cases hin : InShare total f n
    · rcases Nat.eq_zero_or_pos n with rfl | hp
      · exact walk_none total q c f w hr hin
      · obtain ⟨b, off, rfl, _⟩ := id hr hp
        exact walk_main total b off n c f w hp hr hin
    · exact walk_err total q n c f w (by omega) hr hin

set_option maxRecDepth 100000 in
theorem lifted (os : Os) (started : os.Started) (H : Type) (enc : TypeId × Value → H) :
    ReturnsInHanded {} Try.checked os 9 .any (Rows.fixedShareOrderSpec.pre6 enc Try.prog Try.f9 Rows.fixedShareOrderRow.domain false) (Rows.fixedShareOrderSpec.post enc Try.prog Try.f9 false true false false) := by
  refine returnsInHanded_of_change (C := Try.checked) own_knob started (by kernel_rfl) Try.func9
    (ChangeSpec.witness6 (enc := enc) (C := Try.checked) false ⟨#[], #[.int .i64 0, .slice none 0 0], []⟩ 8 (by kernel_rfl) (by kernel_rfl) (by kernel_rfl) (by kernel_rfl)) ?_
  intro W base args ds gs before hval0 hW hcnd _
  have hval : ∀ (j : Nat) t v, Try.f9.params[j]? = some t → args[j]? = some v → Value.okWide Try.prog W .any base t v := hval0
  have hW' := hW
  obtain ⟨p, q, hA0, hV, rfl, hfz, hnd⟩ := hW
  have hA : DataW.TrodAll enc Try.prog W 0 (fun _ => true) true Try.f9.params.toList args.toList ds p := hA0
  have hAk := hA
  rw [Try.params9] at hA hval
  obtain ⟨v0, vs0, d0, ds0, p0, q0, hargs, rfl, rfl, h0, r0⟩ := trodAll_cons hA
  obtain ⟨v1, vs1, d1, ds1, p1, q1, rfl, rfl, rfl, h1, r1⟩ := trodAll_cons r0
  obtain ⟨rfl, rfl, rfl⟩ := trodAll_nil r1
  obtain rfl : args = #[v0, v1] := by cases args; simp_all
  obtain ⟨rfl, rfl⟩ := trodVars_none hV
  obtain ⟨a0, rfl, rfl, rfl, w0⟩ := open_int Try.underlying3 (hval 0 3 v0 rfl rfl) h0
  obtain ⟨s1, n1, c1, f1, rfl, hc1, hn1, hr1, hf1⟩ := open_slice (hval 1 30 v1 rfl rfl) h1
  clear hA0 hval0
  simp only [List.append_nil] at hW'
  refine (walk a0 w0 s1 n1 c1 f1 hc1 hn1 hr1 hf1 W).mono fun e W' ⟨he, hg⟩ => ?_
  subst he
  have hargs' := kept_all hg _ _ _ _ (by rw [Try.params9]; intro t ht; simp only [List.mem_cons, List.not_mem_nil, or_false] at ht; (repeat' (rcases ht with rfl | ht)); all_goals first | (subst ht; exact ⟨by kernel_rfl, of_decide_eq_true (by kernel_rfl)⟩) | exact ⟨by kernel_rfl, of_decide_eq_true (by kernel_rfl)⟩) hAk (fun x hx => hW'.lt x (by simpa using hx))
  exact ⟨_, rfl, ⟨_, _, _, [], _, [], hW', trodAll_cons_mk (shut_bool Try.underlying4 _) trodAll_mk0, hargs', rfl, World.keptBut_mono (fun p hp => ⟨hp, Or.inr (by simpa using hp)⟩) (hg.frame _), fun h => by cases h⟩⟩

theorem over : Rows.fixedShareOrderRow.holds Try.pinned (OpenSpec.ofChange Rows.fixedShareOrderSpec) :=
  OpenClaim.holds_of_wide 9 Try.f9 rfl rfl rfl rfl rfl rfl rfl ⟨rfl, rfl, rfl, rfl, rfl⟩ rfl rfl rfl rfl rfl (by kernel_rfl) Try.func9 (by kernel_rfl)
    (of_decide_eq_true (by kernel_rfl)) (by unfold Func.isWrapper; first | (rw [if_pos (by decide +kernel)]; kernel_rfl) | (rw [if_neg (by decide +kernel)]; exact ⟨rfl, rfl⟩))
    (fun os started H enc _ => lifted os started H enc)

theorem proved : Rows.FixedShareOrderSaid :=
  over
#print axioms proved
end Go.Proofs.Ytdalcmdmkofjhaa.fixedShareOrder
