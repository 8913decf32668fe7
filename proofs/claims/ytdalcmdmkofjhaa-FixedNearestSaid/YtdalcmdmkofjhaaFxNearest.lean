/- The law FixedNearest returns true for every two integers, and leaves the arguments and all old memory as they were; no condition. -/
import Derived.Test.YtdalcmdmkofjhaaRows
import Derived.Test.YtdalcmdmkofjhaaFxAwake
import Derived.WalkKit
import Derived.ProofKit
import Derived.OpenShut
namespace Go.Proofs.Ytdalcmdmkofjhaa.fixedNearest
open Go.ChangeShapes Go.WideShapes Go.ChangeAt Go.RowKit
set_option linter.unusedVariables false      -- a walk need not use every 'w<i>' (that an integer argument fits its kind)

theorem own : ownKnob Try.prog.godebug = none := by kernel_rfl

theorem flr_spec (a b : Int) (hb : 0 < b) : flr a b * b ≤ a ∧ a < flr a b * b + b := by
  unfold flr
  rw [Int.fdiv_eq_ediv_of_nonneg _ (Int.le_of_lt hb)]
  refine ⟨Int.ediv_mul_le _ (by omega), ?_⟩
  have := Int.lt_ediv_add_one_mul_self a hb
  rwa [Int.add_mul, Int.one_mul] at this
theorem rnd_up (a b : Int) (hb : 0 < b) (h : b ≤ 2 * (a - flr a b * b)) : rnd a b = flr a b + 1 := by
  have s := flr_spec a b hb
  exact rnd_pos hb (by rw [Int.add_mul]; omega) (by rw [Int.add_mul]; omega)
theorem rnd_same (a b : Int) (hb : 0 < b) (h : 2 * (a - flr a b * b) < b) : rnd a b = flr a b := by
  have s := flr_spec a b hb
  exact rnd_pos hb (by omega) (by omega)
theorem flr_small (a b : Int) (hb : 0 < b) (h1 : -1152921504606846976 ≤ a) (h2 : a ≤ 1152921504606846976) : -1152921504606846976 ≤ flr a b ∧ flr a b ≤ 1152921504606846976 := by
  have s := flr_spec a b hb
  generalize flr a b = F at *
  constructor
  · rcases Int.lt_or_le F (-1152921504606846976) with h | h
    · have : F * b + b ≤ F + 1 := by
        have e : (F + 1) * b ≤ (F + 1) * 1 := Int.mul_le_mul_of_nonpos_left (by omega) (by omega)
        rw [Int.add_mul] at e
        omega
      omega
    · exact h
  · rcases Int.lt_or_le 1152921504606846976 F with h | h
    · have : F * 1 ≤ F * b := Int.mul_le_mul_of_nonneg_left (by omega) (by omega)
      omega
    · exact h

theorem ret_bool {b : Bool} (h : b = true) : Ending.returned (.bool b) = .returned (.bool true) := by rw [h]

theorem walk (a0 : Int) (a1 : Int) (w0 : (Lit.int .i64 a0).wf = true) (w1 : (Lit.int .i64 a1).wf = true) (w : World) :
    Calls Try.prog 4 #[.int .i64 a0, .int .i64 a1] w fun e w' => e = .returned (.bool true) ∧ Below w.heap.size w w' := by
  clear w0 w1
  by_cases h : (1 ≤ a1 ∧ a1 ≤ 1073741824) ∧ -1152921504606846976 ≤ a0 ∧ a0 ≤ 1152921504606846976
  · obtain ⟨⟨h1, h2⟩, h3, h4⟩ := h
    have hin : inR a0 a1 := ⟨by omega, ⟨h3, h4⟩, by omega, by omega⟩
    have F := hide (Floor_in a0 a1 w hin)
    have R := hide (fun W => Round_in a0 a1 W hin)
    have A := hide awake_any
    have sp := flr_spec a0 a1 (by omega)
    have sm := flr_small a0 a1 (by omega) h3 h4
    obtain ⟨s1, s2⟩ := sp
    obtain ⟨s3, s4⟩ := sm
    have ew : IntKind.i64.wrap (flr a0 a1 * a1) = flr a0 a1 * a1 := wrap_in (by omega)
    by_cases hl : a1 ≤ 2 * (a0 - flr a0 a1 * a1)
    · rw [rnd_up a0 a1 (by omega) hl] at R
      generalize flr a0 a1 = q at *
      clear hin
      go_enter Try.func4, Try.ntmps4
      go_wp2_with fail
      refine F.out.mono ?_
      rintro e w' ⟨rfl, n, rfl⟩
      go_wp2_with fail
      refine (R.out _).mono ?_
      rintro e w' ⟨rfl, m, rfl⟩
      go_wp2_with fail
      refine (A.out _).mono ?_
      rintro e w' ⟨rfl, hB⟩
      have hB := hide hB
      go_wp2
      go_ret
      exact ⟨rfl, ⟨hB.out.os, hB.out.tape, hB.out.output, hB.out.size, hB.out.block⟩⟩
    · rw [rnd_same a0 a1 (by omega) (by omega)] at R
      generalize flr a0 a1 = q at *
      have hne : (q == q + 1) = false := by simp; omega
      clear hin
      go_enter Try.func4, Try.ntmps4
      go_wp2_with fail
      refine F.out.mono ?_
      rintro e w' ⟨rfl, n, rfl⟩
      go_wp2_with fail
      refine (R.out _).mono ?_
      rintro e w' ⟨rfl, m, rfl⟩
      go_wp2_with fail
      refine (A.out _).mono ?_
      rintro e w' ⟨rfl, hB⟩
      have hB := hide hB
      go_wp2
      go_ret
      exact ⟨ret_bool (by rw [decide_eq_false (by omega)]; rfl), ⟨hB.out.os, hB.out.tape, hB.out.output, hB.out.size, hB.out.block⟩⟩
  · go_enter Try.func4, Try.ntmps4
    go_wp2_with (exfalso; omega)
    all_goals go_ret
    all_goals exact ⟨rfl, Below.refl _ _⟩

set_option maxRecDepth 100000 in
theorem lifted (os : Os) (started : os.Started) (H : Type) (enc : TypeId × Value → H) :
    ReturnsInHanded {} Try.checked os 4 .any (Rows.fixedNearestSpec.pre6 enc Try.prog Try.f4 Rows.fixedNearestRow.domain false) (Rows.fixedNearestSpec.post enc Try.prog Try.f4 false true false false) := by
  refine returnsInHanded_of_change (C := Try.checked) own started (by kernel_rfl) Try.func4
    (ChangeSpec.witness6 (enc := enc) (C := Try.checked) false ⟨#[], #[.int .i64 0, .int .i64 0], []⟩ 8 (by kernel_rfl) (by kernel_rfl) (by kernel_rfl) (by kernel_rfl)) ?_
  intro W base args ds gs before hval0 hW hcnd _
  have hval : ∀ (j : Nat) t v, Try.f4.params[j]? = some t → args[j]? = some v → Value.okWide Try.prog W .any base t v := hval0
  have hW' := hW
  obtain ⟨p, q, hA0, hV, rfl, hfz, hnd⟩ := hW
  have hA : DataW.TrodAll enc Try.prog W 0 (fun _ => true) true Try.f4.params.toList args.toList ds p := hA0
  rw [Try.params4] at hA hval
  obtain ⟨v0, vs0, d0, ds0, p0, q0, hargs, rfl, rfl, h0, r0⟩ := trodAll_cons hA
  obtain ⟨v1, vs1, d1, ds1, p1, q1, rfl, rfl, rfl, h1, r1⟩ := trodAll_cons r0
  obtain ⟨rfl, rfl, rfl⟩ := trodAll_nil r1
  obtain rfl : args = #[v0, v1] := by cases args; simp_all
  obtain ⟨rfl, rfl⟩ := trodVars_none hV
  obtain ⟨a0, rfl, rfl, rfl, w0⟩ := open_int Try.underlying3 (hval 0 3 v0 rfl rfl) h0
  obtain ⟨a1, rfl, rfl, rfl, w1⟩ := open_int Try.underlying3 (hval 1 3 v1 rfl rfl) h1
  clear hA0 hval0
  simp only [List.append_nil] at hW'
  refine (walk a0 a1 w0 w1 W).mono fun e W' ⟨he, hg⟩ => ?_
  subst he
  exact ⟨_, rfl, post_kept (pa := []) (pv := []) hW' (fun _ _ _ => (trodAll_cons_mk (shut_bool Try.underlying4 _) trodAll_mk0)) (fun sp _ => (trodAll_cons_mk (shut_int Try.underlying3 w0) (trodAll_cons_mk (shut_int Try.underlying3 w1) trodAll_mk0))) (fun _ _ => rfl) rfl hg⟩

theorem over : Rows.fixedNearestRow.holds Try.pinned (OpenSpec.ofChange Rows.fixedNearestSpec) :=
  OpenClaim.holds_of_wide 4 Try.f4 rfl rfl rfl rfl rfl rfl rfl ⟨rfl, rfl, rfl, rfl, rfl⟩ rfl rfl rfl rfl rfl (by kernel_rfl) Try.func4 (by kernel_rfl)
    (of_decide_eq_true (by kernel_rfl)) (by unfold Func.isWrapper; first | (rw [if_pos (by decide +kernel)]; kernel_rfl) | (rw [if_neg (by decide +kernel)]; exact ⟨rfl, rfl⟩))
    (fun os started H enc _ => lifted os started H enc)

/-- ████ THE STATEMENT ████ -/
theorem proved : Rows.FixedNearestSaid :=
  over
#print axioms proved
end Go.Proofs.Ytdalcmdmkofjhaa.fixedNearest
