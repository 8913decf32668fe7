/- The law ThemeColors returns true for every three integers, and leaves the arguments and all old memory as they were; no condition. -/
import Derived.Test.YtpdjgmfccolgjaaRows
import Derived.Test.YtpdjgmfccolgjaaOpen
import Derived.Test.YtpdjgmfccolgjaaThE
import Derived.WalkKit
import Derived.ProofKit
import Derived.OpenShut
namespace Go.Proofs.Ytpdjgmfccolgjaa.themeColors
open Go.ChangeShapes Go.WideShapes Go.ChangeAt Go.RowKit Go.Sort
set_option linter.unusedVariables false
set_option linter.unusedSimpArgs false

set_option maxHeartbeats 8000000 in
theorem walk (a b l : Int) (w : World) :
    Calls Try.prog 6 #[.int .i64 a, .int .i64 b, .int .i64 l] w fun e w' => e = .returned (.bool true) ∧ Below w.heap.size w w' := by
  have A := fun W => hide (awake_any W)
  have P0 := fun W => hide (Lum_any a W)
  have R0 := fun W => hide (rLum_any a W)
  generalize lumS a = v0 at P0 R0
  have P1 := fun W => hide (Con_any a b W)
  have R1 := fun W => hide (rCon_any a b W)
  generalize conS a b = v1 at P1 R1
  have P2 := fun W => hide (Rea_any a b l W)
  have R2 := fun W => hide (rRea_any a b l W)
  generalize reaS a b l = v2 at P2 R2
  have P3 := fun W => hide (Lum_any (a % 16777216) W)
  have R3 := fun W => hide (rLum_any (a % 16777216) W)
  generalize lumS (a % 16777216) = v3 at P3 R3
  have P4 := fun W => hide (Con_any (a % 16777216) (b % 16777216) W)
  have R4 := fun W => hide (rCon_any (a % 16777216) (b % 16777216) W)
  generalize conS (a % 16777216) (b % 16777216) = v4 at P4 R4
  have P5 := fun W => hide (Rea_any (a % 16777216) (b % 16777216) l W)
  have R5 := fun W => hide (rRea_any (a % 16777216) (b % 16777216) l W)
  generalize reaS (a % 16777216) (b % 16777216) l = v5 at P5 R5
  have P6 := fun W => hide (Rea_any (a % 16777216) (b % 16777216) 450 W)
  have R6 := fun W => hide (rRea_any (a % 16777216) (b % 16777216) 450 W)
  generalize reaS (a % 16777216) (b % 16777216) 450 = v6 at P6 R6
  go_enter Try.func6, Try.ntmps6
  go_wp2_with fail
  refine (P0 _).out.mono ?_
  rintro e w' ⟨rfl, n0, rfl⟩
  go_wp2_with fail
  refine (R0 _).out.mono ?_
  rintro e w' ⟨rfl, rfl⟩
  go_wp2_with fail
  refine (P1 _).out.mono ?_
  rintro e w' ⟨rfl, n1, rfl⟩
  go_wp2_with fail
  refine (R1 _).out.mono ?_
  rintro e w' ⟨rfl, rfl⟩
  go_wp2_with fail
  refine (P2 _).out.mono ?_
  rintro e w' ⟨rfl, n2, rfl⟩
  go_wp2_with fail
  refine (R2 _).out.mono ?_
  rintro e w' ⟨rfl, rfl⟩
  go_wp2_with fail
  refine (P3 _).out.mono ?_
  rintro e w' ⟨rfl, n3, rfl⟩
  go_wp2_with fail
  refine (R3 _).out.mono ?_
  rintro e w' ⟨rfl, rfl⟩
  go_wp2_with fail
  refine (P4 _).out.mono ?_
  rintro e w' ⟨rfl, n4, rfl⟩
  go_wp2_with fail
  refine (R4 _).out.mono ?_
  rintro e w' ⟨rfl, rfl⟩
  go_wp2_with fail
  refine (P5 _).out.mono ?_
  rintro e w' ⟨rfl, n5, rfl⟩
  go_wp2_with fail
  refine (R5 _).out.mono ?_
  rintro e w' ⟨rfl, rfl⟩
  go_wp2_with fail
  refine (P6 _).out.mono ?_
  rintro e w' ⟨rfl, n6, rfl⟩
  go_wp2_with fail
  refine (R6 _).out.mono ?_
  rintro e w' ⟨rfl, rfl⟩
  go_wp2_with fail
  refine (A _).out.mono ?_
  rintro e w' ⟨rfl, hG⟩
  replace hG := hide hG
  go_wp2
  go_ret
  refine ⟨rfl, (Grew.trans ?_ hG.out).below⟩
  repeat' (first | (with_reducible exact Grew.refl _) | (with_reducible refine Grew.drewN ?_ _))

set_option maxRecDepth 100000 in
theorem lifted (os : Os) (started : os.Started) (H : Type) (enc : TypeId × Value → H) :
    ReturnsInHanded {} Try.checked os 6 .any (Rows.themeColorsSpec.pre6 enc Try.prog Try.f6 Rows.themeColorsRow.domain false) (Rows.themeColorsSpec.post enc Try.prog Try.f6 false true false false) := by
  refine returnsInHanded_of_change (C := Try.checked) own_knob started (by kernel_rfl) Try.func6
    (ChangeSpec.witness6 (enc := enc) (C := Try.checked) false ⟨#[], #[.int .i64 0, .int .i64 0, .int .i64 0], []⟩ 8 (by kernel_rfl) (by kernel_rfl) (by kernel_rfl) (by kernel_rfl)) ?_
  intro W base args ds gs before hval0 hW hcnd _
  have hval : ∀ (j : Nat) t v, Try.f6.params[j]? = some t → args[j]? = some v → Value.okWide Try.prog W .any base t v := hval0
  have hW' := hW
  obtain ⟨p, q, hA0, hV, rfl, hfz, hnd⟩ := hW
  have hA : DataW.TrodAll enc Try.prog W 0 (fun _ => true) true Try.f6.params.toList args.toList ds p := hA0
  have hAk := hA
  rw [Try.params6] at hA hval
  obtain ⟨v0, vs0, d0, ds0, p0, q0, hargs, rfl, rfl, h0, r0⟩ := trodAll_cons hA
  obtain ⟨v1, vs1, d1, ds1, p1, q1, rfl, rfl, rfl, h1, r1⟩ := trodAll_cons r0
  obtain ⟨v2, vs2, d2, ds2, p2, q2, rfl, rfl, rfl, h2, r2⟩ := trodAll_cons r1
  obtain ⟨rfl, rfl, rfl⟩ := trodAll_nil r2
  obtain rfl : args = #[v0, v1, v2] := by cases args; simp_all
  obtain ⟨rfl, rfl⟩ := trodVars_none hV
  obtain ⟨a0, rfl, _, _, w0⟩ := open_int Try.underlying3 (hval 0 3 v0 rfl rfl) h0
  obtain ⟨a1, rfl, _, _, w1⟩ := open_int Try.underlying3 (hval 1 3 v1 rfl rfl) h1
  obtain ⟨a2, rfl, _, _, w2⟩ := open_int Try.underlying3 (hval 2 3 v2 rfl rfl) h2
  clear hA0 hval0
  simp only [List.append_nil] at hW'
  refine (walk a0 a1 a2 W).mono fun e W' ⟨he, hg⟩ => ?_
  subst he
  have hargs' := kept_all hg _ _ _ _ (by rw [Try.params6]; intro t ht; simp only [List.mem_cons, List.not_mem_nil, or_false] at ht; (repeat' (rcases ht with rfl | ht)); all_goals first | (subst ht; exact ⟨by kernel_rfl, of_decide_eq_true (by kernel_rfl)⟩) | exact ⟨by kernel_rfl, of_decide_eq_true (by kernel_rfl)⟩) hAk (fun x hx => hW'.lt x (by simpa using hx))
  exact ⟨_, rfl, ⟨_, _, _, [], _, [], hW', trodAll_cons_mk (shut_bool Try.underlying4 _) trodAll_mk0, hargs', rfl, World.keptBut_mono (fun p hp => ⟨hp, Or.inr (by simpa using hp)⟩) (hg.frame _), fun h => by cases h⟩⟩

theorem over : Rows.themeColorsRow.holds Try.pinned (OpenSpec.ofChange Rows.themeColorsSpec) :=
  OpenClaim.holds_of_wide 6 Try.f6 rfl rfl rfl rfl rfl rfl rfl ⟨rfl, rfl, rfl, rfl, rfl⟩ rfl rfl rfl rfl rfl (by kernel_rfl) Try.func6 (by kernel_rfl)
    (of_decide_eq_true (by kernel_rfl)) (by unfold Func.isWrapper; first | (rw [if_pos (by decide +kernel)]; kernel_rfl) | (rw [if_neg (by decide +kernel)]; exact ⟨rfl, rfl⟩))
    (fun os started H enc _ => lifted os started H enc)

theorem proved : Rows.ThemeColorsSaid :=
  over
#print axioms proved
end Go.Proofs.Ytpdjgmfccolgjaa.themeColors
