/- The law CharMirrors returns true for every rune and leaves old memory as it was; no condition. -/
import Derived.Test.YthkaenjdkelbdaaRows
import Derived.Test.YthkaenjdkelbdaaOpen
import Derived.Test.YthkaenjdkelbdaaChLaw
import Derived.Test.YthkaenjdkelbdaaChPair
import Derived.WalkKit
import Derived.ProofKit
import Derived.OpenShut
namespace Go.Proofs.Ythkaenjdkelbdaa.charMirrors
open Go.ChangeShapes Go.WideShapes Go.ChangeAt Go.RowKit Go.Sort
set_option linter.unusedVariables false
set_option linter.unusedSimpArgs false

theorem mi_facts (r : Int) (hr : -2147483648 ≤ r ∧ r ≤ 2147483647) : miS (miS r) = r ∧ (-2147483648 ≤ miS r ∧ miS r ≤ 2147483647) ∧
    (((brS r).1 = 0 ∧ (brS r).2 = 0) ∨ ((brS r).1 = 1 ∧ (brS (brS r).2) = (2, r) ∧ miS r = (brS r).2) ∨ ((brS r).1 = 2 ∧ (brS (brS r).2) = (1, r) ∧ miS r = (brS r).2)) := by
  by_cases h : ∀ k, k < 11 → r ≠ po k ∧ r ≠ pc k
  · have h1 := pm_none h
    have h2 : brS r = (0, 0) := pr_none fun k hk _ => h k hk
    rw [h1, h1, h2]
    exact ⟨rfl, hr, Or.inl ⟨rfl, rfl⟩⟩
  · have : ∃ k, k < 11 ∧ (r = po k ∨ r = pc k) := by
      apply Classical.byContradiction
      intro hn
      apply h
      intro k hk
      constructor
      · intro e; exact hn ⟨k, hk, Or.inl e⟩
      · intro e; exact hn ⟨k, hk, Or.inr e⟩
    obtain ⟨k, hk, rfl | rfl⟩ := this
    all_goals
      clear h hr
      rcases k11 hk with rfl | rfl | rfl | rfl | rfl | rfl | rfl | rfl | rfl | rfl | rfl <;> decide

set_option maxHeartbeats 4000000 in
theorem walk (r : Int) (hw : (Lit.int .i32 r).wf = true) (w : World) :
    Calls Try.prog 5 #[.int .i32 r] w fun e w' => e = .returned (.bool true) ∧ Below w.heap.size w w' := by
  have hr := wf_rune hw
  obtain ⟨f1, f2, f3⟩ := mi_facts r hr
  have M1 := fun W => hide (Mirror_any r W hr)
  have M2 := fun W => hide (Mirror_any (miS r) W f2)
  have B1 := fun W => hide (Bracket_any r W hr)
  have RM := fun W => hide (rMirror_any r W hr)
  have RB := fun W => hide (rBracket_any r W hr)
  have A := fun W => hide (awake_any W)
  rw [f1] at M2
  have hm : miS r = (brS r).2 → -2147483648 ≤ (brS r).2 ∧ (brS r).2 ≤ 2147483647 := fun h => by rw [← h]; exact f2
  rcases f3 with ⟨g1, g2⟩ | ⟨g1, g2, g3⟩ | ⟨g1, g2, g3⟩
  · rw [g1, g2] at B1 RB
    generalize miS r = m at *
    clear f1 hm g1 g2 hw hr
    go_enter Try.func5, Try.ntmps5
    go_wp2_with fail
    refine (M1 _).out.mono ?_
    rintro e w1 ⟨rfl, G1⟩
    replace G1 := hide G1
    go_wp2_with fail
    refine (B1 _).out.mono ?_
    rintro e w2 ⟨rfl, G2⟩
    replace G2 := hide G2
    go_wp2_with fail
    refine (RB _).out.mono ?_
    rintro e w3 ⟨rfl, G3⟩
    replace G3 := hide G3
    go_wp2_with fail
    refine (RM _).out.mono ?_
    rintro e w4 ⟨rfl, G4⟩
    replace G4 := hide G4
    go_wp2_with fail
    refine (M2 _).out.mono ?_
    rintro e w5 ⟨rfl, G5⟩
    replace G5 := hide G5
    go_wp2_with fail
    refine (A _).out.mono ?_
    rintro e w6 ⟨rfl, G6⟩
    replace G6 := hide G6
    go_wp2
    go_ret
    exact ⟨rfl, (((((G1.out.trans G2.out).trans G3.out).trans G4.out).trans G5.out).trans G6.out).below⟩
  all_goals
    have B2 := fun W => hide (Bracket_any (brS r).2 W (hm g3))
    rw [g2] at B2
    rw [g1] at B1 RB
    rw [g3] at M1 M2 RM
    dsimp only at B2
    generalize (brS r).2 = m at *
    clear f1 hm g1 g2 g3 hw hr f2
    go_enter Try.func5, Try.ntmps5
    go_wp2_with fail
    refine (M1 _).out.mono ?_
    rintro e w1 ⟨rfl, G1⟩
    replace G1 := hide G1
    go_wp2_with fail
    refine (B1 _).out.mono ?_
    rintro e w2 ⟨rfl, G2⟩
    replace G2 := hide G2
    go_wp2_with fail
    refine (RB _).out.mono ?_
    rintro e w3 ⟨rfl, G3⟩
    replace G3 := hide G3
    go_wp2_with fail
    refine (RM _).out.mono ?_
    rintro e w4 ⟨rfl, G4⟩
    replace G4 := hide G4
    go_wp2_with fail
    refine (M2 _).out.mono ?_
    rintro e w5 ⟨rfl, G5⟩
    replace G5 := hide G5
    go_wp2_with fail
    refine (B2 _).out.mono ?_
    rintro e w7 ⟨rfl, G7⟩
    replace G7 := hide G7
    go_wp2_with fail
    refine (A _).out.mono ?_
    rintro e w6 ⟨rfl, G6⟩
    replace G6 := hide G6
    go_wp2
    go_ret
    exact ⟨rfl, ((((((G1.out.trans G2.out).trans G3.out).trans G4.out).trans G5.out).trans G7.out).trans G6.out).below⟩

set_option maxRecDepth 100000 in
theorem lifted (os : Os) (started : os.Started) (H : Type) (enc : TypeId × Value → H) :
    ReturnsInHanded {} Try.checked os 5 .any (Rows.charMirrorsSpec.pre6 enc Try.prog Try.f5 Rows.charMirrorsRow.domain false) (Rows.charMirrorsSpec.post enc Try.prog Try.f5 false true false false) := by
  refine returnsInHanded_of_change (C := Try.checked) own_knob started (by kernel_rfl) Try.func5
    (ChangeSpec.witness6 (enc := enc) (C := Try.checked) false ⟨#[], #[.int .i32 0], []⟩ 8 (by kernel_rfl) (by kernel_rfl) (by kernel_rfl) (by kernel_rfl)) ?_
  intro W base args ds gs before hval0 hW hcnd _
  have hval : ∀ (j : Nat) t v, Try.f5.params[j]? = some t → args[j]? = some v → Value.okWide Try.prog W .any base t v := hval0
  have hW' := hW
  obtain ⟨p, q, hA0, hV, rfl, hfz, hnd⟩ := hW
  have hA : DataW.TrodAll enc Try.prog W 0 (fun _ => true) true Try.f5.params.toList args.toList ds p := hA0
  have hAk := hA
  rw [Try.params5] at hA hval
  obtain ⟨v0, vs0, d0, ds0, p0, q0, hargs, rfl, rfl, h0, r0⟩ := trodAll_cons hA
  obtain ⟨rfl, rfl, rfl⟩ := trodAll_nil r0
  obtain rfl : args = #[v0] := by cases args; simp_all
  obtain ⟨rfl, rfl⟩ := trodVars_none hV
  obtain ⟨a0, rfl, _, _, w0⟩ := open_int Try.underlying21 (hval 0 21 v0 rfl rfl) h0
  clear hA0 hval0
  simp only [List.append_nil] at hW'
  refine (walk a0 w0 W).mono fun e W' ⟨he, hg⟩ => ?_
  subst he
  have hargs' := kept_all hg _ _ _ _ (by rw [Try.params5]; intro t ht; simp only [List.mem_cons, List.not_mem_nil, or_false] at ht; (repeat' (rcases ht with rfl | ht)); all_goals first | (subst ht; exact ⟨by kernel_rfl, of_decide_eq_true (by kernel_rfl)⟩) | exact ⟨by kernel_rfl, of_decide_eq_true (by kernel_rfl)⟩) hAk (fun x hx => hW'.lt x (by simpa using hx))
  exact ⟨_, rfl, ⟨_, _, _, [], _, [], hW', trodAll_cons_mk (shut_bool Try.underlying4 _) trodAll_mk0, hargs', rfl, World.keptBut_mono (fun p hp => ⟨hp, Or.inr (by simpa using hp)⟩) (hg.frame _), fun h => by cases h⟩⟩

theorem over : Rows.charMirrorsRow.holds Try.pinned (OpenSpec.ofChange Rows.charMirrorsSpec) :=
  OpenClaim.holds_of_wide 5 Try.f5 rfl rfl rfl rfl rfl rfl rfl ⟨rfl, rfl, rfl, rfl, rfl⟩ rfl rfl rfl rfl rfl (by kernel_rfl) Try.func5 (by kernel_rfl)
    (of_decide_eq_true (by kernel_rfl)) (by unfold Func.isWrapper; first | (rw [if_pos (by decide +kernel)]; kernel_rfl) | (rw [if_neg (by decide +kernel)]; exact ⟨rfl, rfl⟩))
    (fun os started H enc _ => lifted os started H enc)

theorem proved : Rows.CharMirrorsSaid :=
  over
#print axioms proved
end Go.Proofs.Ythkaenjdkelbdaa.charMirrors
