/- The law CharBlocks returns true for every block and leaves old memory as it was; no condition. -/
import Derived.Test.YthkaenjdkelbdaaRows
import Derived.Test.YthkaenjdkelbdaaOpen
import Derived.Test.YthkaenjdkelbdaaChLaw
import Derived.WalkKit
import Derived.ProofKit
import Derived.OpenShut
namespace Go.Proofs.Ythkaenjdkelbdaa.charBlocks
open Go.ChangeShapes Go.WideShapes Go.ChangeAt Go.RowKit Go.Sort
set_option linter.unusedVariables false
set_option linter.unusedSimpArgs false

set_option maxHeartbeats 2000000 in
theorem walk (a : Int) (hw : (Lit.int .u16 a).wf = true) (w : World) :
    Calls Try.prog 4 #[.int .u16 a] w fun e w' => e = .returned (.bool true) ∧ Below w.heap.size w w' := by
  obtain ⟨h1, h2⟩ := wf_u16 hw
  clear hw
  go_enter Try.func4, Try.ntmps4
  go_wp2
  go_loopg [3] 257 (fun g v wr => ∃ k : Nat, v = .int .i64 k ∧ k ≤ 256 ∧ 256 - k < g ∧ Hid (Grew w wr))
  case atStart => exact ⟨0, by go_num, by omega, by omega, Grew.refl w⟩
  case round =>
    obtain ⟨k, rfl, hk, hg, G0⟩ := hrel
    by_cases hlt : k < 256
    · have hltz : (k : Int) < 256 := by omega
      have q1 : 0 ≤ a % 4608 := by omega
      have q2 : a % 4608 ≤ 4607 := by omega
      go_upto_region 5 with (fail)
      have hr : -2147483648 ≤ a % 4608 * 256 + (k : Int) ∧ a % 4608 * 256 + (k : Int) ≤ 2147483647 := by omega
      generalize a % 4608 * 256 + (k : Int) = r at hr ⊢
      have CBreak := fun W => hide (Break_any r W hr)
      have DBreak := fun W => hide (rBreak_any r W hr)
      have CWord := fun W => hide (Word_any r W hr)
      have DWord := fun W => hide (rWord_any r W hr)
      have CLine := fun W => hide (Line_any r W hr)
      have DLine := fun W => hide (rLine_any r W hr)
      have CBidi := fun W => hide (Bidi_any r W hr)
      have DBidi := fun W => hide (rBidi_any r W hr)
      have CJoining := fun W => hide (Joining_any r W hr)
      have DJoining := fun W => hide (rJoining_any r W hr)
      generalize cls r = c at *
      obtain ⟨x1, x2, x3, x4, x5⟩ := c
      dsimp only at CBreak DBreak CWord DWord CLine DLine CBidi DBidi CJoining DJoining
      clear hr
      go_wp2_with fail
      refine (CBreak _).out.mono ?_
      rintro e w1 ⟨rfl, G1⟩
      replace G1 := hide G1
      go_wp2_with fail
      refine (DBreak _).out.mono ?_
      rintro e w2 ⟨rfl, G2⟩
      replace G2 := hide G2
      go_wp2_with fail
      refine (CWord _).out.mono ?_
      rintro e w3 ⟨rfl, G3⟩
      replace G3 := hide G3
      go_wp2_with fail
      refine (DWord _).out.mono ?_
      rintro e w4 ⟨rfl, G4⟩
      replace G4 := hide G4
      go_wp2_with fail
      refine (CLine _).out.mono ?_
      rintro e w5 ⟨rfl, G5⟩
      replace G5 := hide G5
      go_wp2_with fail
      refine (DLine _).out.mono ?_
      rintro e w6 ⟨rfl, G6⟩
      replace G6 := hide G6
      go_wp2_with fail
      refine (CBidi _).out.mono ?_
      rintro e w7 ⟨rfl, G7⟩
      replace G7 := hide G7
      go_wp2_with fail
      refine (DBidi _).out.mono ?_
      rintro e w8 ⟨rfl, G8⟩
      replace G8 := hide G8
      go_wp2_with fail
      refine (CJoining _).out.mono ?_
      rintro e w9 ⟨rfl, G9⟩
      replace G9 := hide G9
      go_wp2_with fail
      refine (DJoining _).out.mono ?_
      rintro e w10 ⟨rfl, G10⟩
      replace G10 := hide G10
      have GA : Hid (Grew w w10) := ((((((((((G0.out).trans G1.out).trans G2.out).trans G3.out).trans G4.out).trans G5.out).trans G6.out).trans G7.out).trans G8.out).trans G9.out).trans G10.out
      clear G0 G1 G2 G3 G4 G5 G6 G7 G8 G9 G10 CBreak DBreak CWord DWord CLine DLine CBidi DBidi CJoining DJoining
      go_wp2
      go_roundg (256 - k)
      case measure => omega
      case rel => exact ⟨k + 1, by go_num, by omega, by omega, GA⟩
    · have hltz : ¬ (k : Int) < 256 := by omega
      have A := fun W => hide (awake_any W)
      go_wp2_with fail
      refine (A _).out.mono ?_
      rintro e w1 ⟨rfl, G1⟩
      replace G1 := hide G1
      go_wp2
      go_ret
      exact ⟨rfl, (G0.out.trans G1.out).below⟩

set_option maxRecDepth 100000 in
theorem lifted (os : Os) (started : os.Started) (H : Type) (enc : TypeId × Value → H) :
    ReturnsInHanded {} Try.checked os 4 .any (Rows.charBlocksSpec.pre6 enc Try.prog Try.f4 Rows.charBlocksRow.domain false) (Rows.charBlocksSpec.post enc Try.prog Try.f4 false true false false) := by
  refine returnsInHanded_of_change (C := Try.checked) own_knob started (by kernel_rfl) Try.func4
    (ChangeSpec.witness6 (enc := enc) (C := Try.checked) false ⟨#[], #[.int .u16 0], []⟩ 8 (by kernel_rfl) (by kernel_rfl) (by kernel_rfl) (by kernel_rfl)) ?_
  intro W base args ds gs before hval0 hW hcnd _
  have hval : ∀ (j : Nat) t v, Try.f4.params[j]? = some t → args[j]? = some v → Value.okWide Try.prog W .any base t v := hval0
  have hW' := hW
  obtain ⟨p, q, hA0, hV, rfl, hfz, hnd⟩ := hW
  have hA : DataW.TrodAll enc Try.prog W 0 (fun _ => true) true Try.f4.params.toList args.toList ds p := hA0
  have hAk := hA
  rw [Try.params4] at hA hval
  obtain ⟨v0, vs0, d0, ds0, p0, q0, hargs, rfl, rfl, h0, r0⟩ := trodAll_cons hA
  obtain ⟨rfl, rfl, rfl⟩ := trodAll_nil r0
  obtain rfl : args = #[v0] := by cases args; simp_all
  obtain ⟨rfl, rfl⟩ := trodVars_none hV
  obtain ⟨a0, rfl, _, _, w0⟩ := open_int Try.underlying25 (hval 0 25 v0 rfl rfl) h0
  clear hA0 hval0
  simp only [List.append_nil] at hW'
  refine (walk a0 w0 W).mono fun e W' ⟨he, hg⟩ => ?_
  subst he
  have hargs' := kept_all hg _ _ _ _ (by rw [Try.params4]; intro t ht; simp only [List.mem_cons, List.not_mem_nil, or_false] at ht; (repeat' (rcases ht with rfl | ht)); all_goals first | (subst ht; exact ⟨by kernel_rfl, of_decide_eq_true (by kernel_rfl)⟩) | exact ⟨by kernel_rfl, of_decide_eq_true (by kernel_rfl)⟩) hAk (fun x hx => hW'.lt x (by simpa using hx))
  exact ⟨_, rfl, ⟨_, _, _, [], _, [], hW', trodAll_cons_mk (shut_bool Try.underlying4 _) trodAll_mk0, hargs', rfl, World.keptBut_mono (fun p hp => ⟨hp, Or.inr (by simpa using hp)⟩) (hg.frame _), fun h => by cases h⟩⟩

theorem over : Rows.charBlocksRow.holds Try.pinned (OpenSpec.ofChange Rows.charBlocksSpec) :=
  OpenClaim.holds_of_wide 4 Try.f4 rfl rfl rfl rfl rfl rfl rfl ⟨rfl, rfl, rfl, rfl, rfl⟩ rfl rfl rfl rfl rfl (by kernel_rfl) Try.func4 (by kernel_rfl)
    (of_decide_eq_true (by kernel_rfl)) (by unfold Func.isWrapper; first | (rw [if_pos (by decide +kernel)]; kernel_rfl) | (rw [if_neg (by decide +kernel)]; exact ⟨rfl, rfl⟩))
    (fun os started H enc _ => lifted os started H enc)

theorem proved : Rows.CharBlocksSaid :=
  over
#print axioms proved
end Go.Proofs.Ythkaenjdkelbdaa.charBlocks
