/- What each function that gives a class returns, in the program and in the reference; no condition but that the argument is a rune's number. -/
import Derived.Test.YtfiaongnogiegaaChCls
namespace Go.Proofs.Ytfiaongnogiegaa
open Go.RowKit Go.Sort Go.Great
set_option linter.unusedSimpArgs false
set_option linter.unusedVariables false

def Cl.ok (c : Cl) : Prop := (0 ≤ c.b ∧ c.b ≤ 255) ∧ (0 ≤ c.w ∧ c.w ≤ 255) ∧ (0 ≤ c.l ∧ c.l ≤ 255) ∧ (0 ≤ c.d ∧ c.d ≤ 255) ∧ (0 ≤ c.j ∧ c.j ≤ 255)
instance (c : Cl) : Decidable c.ok := inferInstanceAs (Decidable (_ ∧ _))
theorem refF_small : ((2147483647 : Int) :: allBounds).all (fun s => decide (decide (refF s).ok = true)) = true := by kernel_rfl
theorem cls_ok (r : Int) (hr : -2147483648 ≤ r ∧ r ≤ 2147483647) : (cls r).ok := by
  unfold cls
  cases hs : isSyl r
  · have := steps_eq (g := fun r => decide (refF r).ok) (h := fun _ => true) (S := allBounds) (M := 2147483647) (fun r s h => by simp only [steps_ref r s h]) (fun _ _ _ => rfl) refF_small r hr.2
    exact of_decide_eq_true this
  · simp only [if_true]
    split <;> decide
@[go_sem] theorem rw_field0 (f z b w l d j : Int) (W : World) : (Instr.field 77 (.agg #[.int .i32 f, .int .i32 z, .int .u8 b, .int .u8 w, .int .u8 l, .int .u8 d, .int .u8 j]) 0).run Try.prog W = .ok (.int .i32 f) W := by kernel_rfl
@[go_sem] theorem rw_field1 (f z b w l d j : Int) (W : World) : (Instr.field 77 (.agg #[.int .i32 f, .int .i32 z, .int .u8 b, .int .u8 w, .int .u8 l, .int .u8 d, .int .u8 j]) 1).run Try.prog W = .ok (.int .i32 z) W := by kernel_rfl
@[go_sem] theorem rw_field2 (f z b w l d j : Int) (W : World) : (Instr.field 77 (.agg #[.int .i32 f, .int .i32 z, .int .u8 b, .int .u8 w, .int .u8 l, .int .u8 d, .int .u8 j]) 2).run Try.prog W = .ok (.int .u8 b) W := by kernel_rfl
@[go_sem] theorem rw_field3 (f z b w l d j : Int) (W : World) : (Instr.field 77 (.agg #[.int .i32 f, .int .i32 z, .int .u8 b, .int .u8 w, .int .u8 l, .int .u8 d, .int .u8 j]) 3).run Try.prog W = .ok (.int .u8 w) W := by kernel_rfl
@[go_sem] theorem rw_field4 (f z b w l d j : Int) (W : World) : (Instr.field 77 (.agg #[.int .i32 f, .int .i32 z, .int .u8 b, .int .u8 w, .int .u8 l, .int .u8 d, .int .u8 j]) 4).run Try.prog W = .ok (.int .u8 l) W := by kernel_rfl
@[go_sem] theorem rw_field5 (f z b w l d j : Int) (W : World) : (Instr.field 77 (.agg #[.int .i32 f, .int .i32 z, .int .u8 b, .int .u8 w, .int .u8 l, .int .u8 d, .int .u8 j]) 5).run Try.prog W = .ok (.int .u8 d) W := by kernel_rfl
@[go_sem] theorem rw_field6 (f z b w l d j : Int) (W : World) : (Instr.field 77 (.agg #[.int .i32 f, .int .i32 z, .int .u8 b, .int .u8 w, .int .u8 l, .int .u8 d, .int .u8 j]) 6).run Try.prog W = .ok (.int .u8 j) W := by kernel_rfl
@[go_sem] theorem cl_field0 (b w l d j : Int) (W : World) : (Instr.field 74 (.agg #[.int .i64 b, .int .i64 w, .int .i64 l, .int .i64 d, .int .i64 j]) 0).run Try.prog W = .ok (.int .i64 b) W := by kernel_rfl
@[go_sem] theorem cl_field1 (b w l d j : Int) (W : World) : (Instr.field 74 (.agg #[.int .i64 b, .int .i64 w, .int .i64 l, .int .i64 d, .int .i64 j]) 1).run Try.prog W = .ok (.int .i64 w) W := by kernel_rfl
@[go_sem] theorem cl_field2 (b w l d j : Int) (W : World) : (Instr.field 74 (.agg #[.int .i64 b, .int .i64 w, .int .i64 l, .int .i64 d, .int .i64 j]) 2).run Try.prog W = .ok (.int .i64 l) W := by kernel_rfl
@[go_sem] theorem cl_field3 (b w l d j : Int) (W : World) : (Instr.field 74 (.agg #[.int .i64 b, .int .i64 w, .int .i64 l, .int .i64 d, .int .i64 j]) 3).run Try.prog W = .ok (.int .i64 d) W := by kernel_rfl
@[go_sem] theorem cl_field4 (b w l d j : Int) (W : World) : (Instr.field 74 (.agg #[.int .i64 b, .int .i64 w, .int .i64 l, .int .i64 d, .int .i64 j]) 4).run Try.prog W = .ok (.int .i64 j) W := by kernel_rfl

theorem Break_any (r : Int) (w : World) (hr : -2147483648 ≤ r ∧ r ≤ 2147483647) : Calls Try.prog 55 #[.int .i32 r] w fun e w' => e = .returned (.int .i64 (cls r).b) ∧ Grew w w' := by
  have H := hide (congrArg Cl.b (clOf_row r hr))
  have C := hide (classesOf_any r w hr)
  obtain ⟨⟨k1, k2⟩, ⟨k3, k4⟩, ⟨k5, k6⟩, ⟨k7, k8⟩, k9, k10⟩ := cls_ok r hr
  obtain ⟨f0, z0, b0, w0, l0, d0, j0, hR⟩ : ∃ f0 z0 b0 w0 l0 d0 j0, rowOf r = ⟨f0, z0, b0, w0, l0, d0, j0⟩ := ⟨_, _, _, _, _, _, _, rfl⟩
  rw [hR] at H C
  have H : Hid (b0 = (cls r).b) := H.out
  have e : b0 = (cls r).b := H.out
  generalize (cls r).b = x at *
  subst e
  clear hR H hr
  dsimp only [Rw.v] at C
  go_enter Try.func55, Try.ntmps55
  go_wp2_with fail
  refine C.out.mono ?_
  rintro e w1 ⟨rfl, G1⟩
  replace G1 := hide G1
  go_wp2
  go_ret
  exact ⟨rfl, G1.out⟩

theorem rBreak_any (r : Int) (w : World) (hr : -2147483648 ≤ r ∧ r ≤ 2147483647) : Calls Try.prog 43 #[.int .i32 r] w fun e w' => e = .returned (.int .i64 (cls r).b) ∧ Grew w w' := by
  have C := hide (rfind_any r w hr)
  generalize cls r = c at *
  obtain ⟨b0, w0, l0, d0, j0⟩ := c
  dsimp only [Cl.v] at C
  clear hr
  go_enter Try.func43, Try.ntmps43
  go_wp2_with fail
  refine C.out.mono ?_
  rintro e w1 ⟨rfl, G1⟩
  replace G1 := hide G1
  go_wp2
  go_ret
  exact ⟨rfl, G1.out⟩

end Go.Proofs.Ytfiaongnogiegaa
