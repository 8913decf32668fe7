/- The law ThemeReadable returns true for every three integers, and leaves the arguments and all old memory as they were; no condition. -/
import Derived.Test.YtpdjgmfccolgjaaRows
import Derived.Test.YtpdjgmfccolgjaaOpen
import Derived.Test.YtpdjgmfccolgjaaThE
import Derived.WalkKit
import Derived.ProofKit
import Derived.OpenShut
namespace Go.Proofs.Ytpdjgmfccolgjaa.themeReadable
open Go.ChangeShapes Go.WideShapes Go.ChangeAt Go.RowKit Go.Sort
set_option linter.unusedVariables false
set_option linter.unusedSimpArgs false

set_option maxHeartbeats 4000000 in
theorem core (c k l l' : Int) (hl : l = l' ∧ l' ≤ 450 ∨ 450 < l ∧ l' = 450) (w : World) :
    Calls Try.prog 7 #[.int .i64 c, .int .i64 k, .int .i64 l] w fun e w' => e = .returned (.bool true) ∧ Below w.heap.size w w' := by
  have hc : colB (c % 16777216) = true := by unfold colB; exact decide_eq_true ⟨by omega, by omega⟩
  have hk : colB (k % 16777216) = true := by unfold colB; exact decide_eq_true ⟨by omega, by omega⟩
  have K1 := fun W => hide (Con_any (c % 16777216) (k % 16777216) W)
  have K2 := fun W => hide (Con_any (k % 16777216) (c % 16777216) W)
  rw [con_comm (k % 16777216)] at K2
  have K3 := fun W => hide (Rea_any (c % 16777216) (k % 16777216) l' W)
  have K4 := fun W => hide (Con_any (reaS (c % 16777216) (k % 16777216) l') (k % 16777216) W)
  have K5 := fun W => hide (Con_any (c % 16777216) (c % 16777216) W)
  rw [con_self hc] at K5
  have A := fun W => hide (awake_any W)
  have b1 := con_bd hc hk
  have b2 := rea_least hc hk (show l' ≤ 450 by omega)
  generalize conS (c % 16777216) (k % 16777216) = x at *
  generalize reaS (c % 16777216) (k % 16777216) l' = r at *
  generalize conS r (k % 16777216) = y at *
  clear hc hk
  obtain ⟨b1, b3⟩ := b1
  rcases hl with ⟨rfl, hl⟩ | ⟨hl, rfl⟩
  · go_enter Try.func7, Try.ntmps7
    go_wp2_with fail
    refine (K1 _).out.mono ?_
    rintro e w' ⟨rfl, n1, rfl⟩
    go_wp2_with fail
    refine (K2 _).out.mono ?_
    rintro e w' ⟨rfl, n2, rfl⟩
    go_wp2_with fail
    refine (K3 _).out.mono ?_
    rintro e w' ⟨rfl, n3, rfl⟩
    go_wp2_with fail
    refine (K4 _).out.mono ?_
    rintro e w' ⟨rfl, n4, rfl⟩
    go_wp2_with fail
    refine (K5 _).out.mono ?_
    rintro e w' ⟨rfl, n5, rfl⟩
    go_wp2_with fail
    refine (A _).out.mono ?_
    rintro e w' ⟨rfl, hG⟩
    replace hG := hide hG
    go_wp2
    go_ret
    refine ⟨rfl, (Grew.trans ?_ hG.out).below⟩
    repeat' (first | (with_reducible exact Grew.refl _) | (with_reducible refine Grew.drewN ?_ _))
  · go_enter Try.func7, Try.ntmps7
    go_wp2_with fail
    refine (K1 _).out.mono ?_
    rintro e w' ⟨rfl, n1, rfl⟩
    go_wp2_with fail
    refine (K2 _).out.mono ?_
    rintro e w' ⟨rfl, n2, rfl⟩
    go_wp2_with fail
    refine (K3 _).out.mono ?_
    rintro e w' ⟨rfl, n3, rfl⟩
    go_wp2_with fail
    refine (K4 _).out.mono ?_
    rintro e w' ⟨rfl, n4, rfl⟩
    go_wp2_with fail
    refine (K5 _).out.mono ?_
    rintro e w' ⟨rfl, n5, rfl⟩
    go_wp2_with fail
    refine (A _).out.mono ?_
    rintro e w' ⟨rfl, hG⟩
    replace hG := hide hG
    go_wp2
    go_ret
    refine ⟨rfl, (Grew.trans ?_ hG.out).below⟩
    repeat' (first | (with_reducible exact Grew.refl _) | (with_reducible refine Grew.drewN ?_ _))
theorem walk (c k l : Int) (w : World) :
    Calls Try.prog 7 #[.int .i64 c, .int .i64 k, .int .i64 l] w fun e w' => e = .returned (.bool true) ∧ Below w.heap.size w w' := by
  by_cases h : 450 < l
  · exact core c k l 450 (Or.inr ⟨h, rfl⟩) w
  · exact core c k l l (Or.inl ⟨rfl, by omega⟩) w

set_option maxRecDepth 100000 in
theorem lifted (os : Os) (started : os.Started) (H : Type) (enc : TypeId × Value → H) :
    ReturnsInHanded {} Try.checked os 7 .any (Rows.themeReadableSpec.pre6 enc Try.prog Try.f7 Rows.themeReadableRow.domain false) (Rows.themeReadableSpec.post enc Try.prog Try.f7 false true false false) := by
  refine returnsInHanded_of_change (C := Try.checked) own_knob started (by kernel_rfl) Try.func7
    (ChangeSpec.witness6 (enc := enc) (C := Try.checked) false ⟨#[], #[.int .i64 0, .int .i64 0, .int .i64 0], []⟩ 8 (by kernel_rfl) (by kernel_rfl) (by kernel_rfl) (by kernel_rfl)) ?_
  intro W base args ds gs before hval0 hW hcnd _
  have hval : ∀ (j : Nat) t v, Try.f7.params[j]? = some t → args[j]? = some v → Value.okWide Try.prog W .any base t v := hval0
  have hW' := hW
  obtain ⟨p, q, hA0, hV, rfl, hfz, hnd⟩ := hW
  have hA : DataW.TrodAll enc Try.prog W 0 (fun _ => true) true Try.f7.params.toList args.toList ds p := hA0
  have hAk := hA
  rw [Try.params7] at hA hval
  obtain ⟨v0, vs0, d0, ds0, p0, q0, hargs, rfl, rfl, h0, r0⟩ := trodAll_cons hA
  obtain ⟨v1, vs1, d1, ds1, p1, q1, rfl, rfl, rfl, h1, r1⟩ := trodAll_cons r0
  obtain ⟨v2, vs2, d2, ds2, p2, q2, rfl, rfl, rfl, h2, r2⟩ := trodAll_cons r1
  obtain ⟨rfl, rfl, rfl⟩ := trodAll_nil r2
  obtain rfl : args = #[v0, v1, v2] := by cases args; simp_all
  obtain ⟨rfl, rfl⟩ := trodVars_none hV
  obtain ⟨a0, rfl, _, _, w0⟩ := open_int Try.underlying3 (hval 0 3 v0 rfl rfl) h0
  obtain ⟨a1, rfl, _, _, w1⟩ := open_int Try.underlying3 (hval 1 3 v1 rfl rfl) h1
  obtain ⟨a2, rfl, _, _, w2⟩ := open_int Try.underlying3 (hval 2 3 v2 rfl rfl) h2
  clear hA0 hval0
  simp only [List.append_nil] at hW'
  refine (walk a0 a1 a2 W).mono fun e W' ⟨he, hg⟩ => ?_
  subst he
  have hargs' := kept_all hg _ _ _ _ (by rw [Try.params7]; intro t ht; simp only [List.mem_cons, List.not_mem_nil, or_false] at ht; (repeat' (rcases ht with rfl | ht)); all_goals first | (subst ht; exact ⟨by kernel_rfl, of_decide_eq_true (by kernel_rfl)⟩) | exact ⟨by kernel_rfl, of_decide_eq_true (by kernel_rfl)⟩) hAk (fun x hx => hW'.lt x (by simpa using hx))
  exact ⟨_, rfl, ⟨_, _, _, [], _, [], hW', trodAll_cons_mk (shut_bool Try.underlying4 _) trodAll_mk0, hargs', rfl, World.keptBut_mono (fun p hp => ⟨hp, Or.inr (by simpa using hp)⟩) (hg.frame _), fun h => by cases h⟩⟩

theorem over : Rows.themeReadableRow.holds Try.pinned (OpenSpec.ofChange Rows.themeReadableSpec) :=
  OpenClaim.holds_of_wide 7 Try.f7 rfl rfl rfl rfl rfl rfl rfl ⟨rfl, rfl, rfl, rfl, rfl⟩ rfl rfl rfl rfl rfl (by kernel_rfl) Try.func7 (by kernel_rfl)
    (of_decide_eq_true (by kernel_rfl)) (by unfold Func.isWrapper; first | (rw [if_pos (by decide +kernel)]; kernel_rfl) | (rw [if_neg (by decide +kernel)]; exact ⟨rfl, rfl⟩))
    (fun os started H enc _ => lifted os started H enc)

theorem proved : Rows.ThemeReadableSaid :=
  over
#print axioms proved
end Go.Proofs.Ytpdjgmfccolgjaa.themeReadable
