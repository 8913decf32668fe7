/- The laws' sanity check returns true; no condition. -/
import Derived.Test.YthkaenjdkelbdaaChMir
import Derived.Deep.LoopGhost
import Derived.Deep.Cut
namespace Go.Proofs.Ythkaenjdkelbdaa
open Go.RowKit Go.Sort Go.Great
set_option linter.unusedVariables false
theorem c1488 : (cls 1488).d = 1 := by kernel_rfl
theorem c55 : (cls 55).w = 4 := by kernel_rfl
theorem c769 : (cls 769).b = 4 := by kernel_rfl
theorem m40 : miS 40 = 41 := by kernel_rfl
set_option maxHeartbeats 1000000 in
theorem awake_any (w : World) : Calls Try.prog 16 #[] w fun e w' => e = .returned (.bool true) ∧ Grew w w' := by
  have C1 := fun W => hide (Bidi_any 1488 W (by omega))
  have C2 := fun W => hide (Word_any 55 W (by omega))
  have C3 := fun W => hide (Break_any 769 W (by omega))
  have C4 := fun W => hide (Mirror_any 40 W (by omega))
  rw [c1488] at C1
  rw [c55] at C2
  rw [c769] at C3
  rw [m40] at C4
  go_enter Try.func16, Try.ntmps16
  go_wp2_with fail
  refine (C1 _).out.mono ?_
  rintro e w1 ⟨rfl, G1⟩
  replace G1 := hide G1
  go_wp2_with fail
  refine (C2 _).out.mono ?_
  rintro e w2 ⟨rfl, G2⟩
  replace G2 := hide G2
  go_wp2_with fail
  refine (C3 _).out.mono ?_
  rintro e w3 ⟨rfl, G3⟩
  replace G3 := hide G3
  go_wp2_with fail
  refine (C4 _).out.mono ?_
  rintro e w4 ⟨rfl, G4⟩
  replace G4 := hide G4
  go_wp2
  go_ret
  exact ⟨rfl, ((G1.out.trans G2.out).trans G3.out).trans G4.out⟩
theorem wf_rune {r : Int} (h : (Lit.int .i32 r).wf = true) : -2147483648 ≤ r ∧ r ≤ 2147483647 := by
  have h' : (decide (IntKind.min .i32 ≤ r) && decide (r ≤ IntKind.max .i32)) = true := h
  rw [Bool.and_eq_true] at h'
  exact ⟨of_decide_eq_true h'.1, of_decide_eq_true h'.2⟩
theorem wf_u16 {r : Int} (h : (Lit.int .u16 r).wf = true) : 0 ≤ r ∧ r ≤ 65535 := by
  have h' : (decide (IntKind.min .u16 ≤ r) && decide (r ≤ IntKind.max .u16)) = true := h
  rw [Bool.and_eq_true] at h'
  exact ⟨of_decide_eq_true h'.1, of_decide_eq_true h'.2⟩
end Go.Proofs.Ythkaenjdkelbdaa
