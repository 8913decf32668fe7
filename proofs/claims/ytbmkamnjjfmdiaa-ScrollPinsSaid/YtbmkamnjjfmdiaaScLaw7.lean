/- The law ScrollPins returns true for all arguments, and leaves the arguments and all old memory as they were; no condition. -/
import Derived.Test.YtbmkamnjjfmdiaaRows
import Derived.Test.YtbmkamnjjfmdiaaFxOpen
import Derived.Test.YtbmkamnjjfmdiaaOpSc
import Derived.Test.YtbmkamnjjfmdiaaScC
import Derived.Test.YtbmkamnjjfmdiaaScL4
import Derived.WalkKit
import Derived.ProofKit
import Derived.OpenShut
namespace Go.Proofs.Ytbmkamnjjfmdiaa.scrollPins
open Go.ChangeShapes Go.WideShapes Go.ChangeAt Go.RowKit Go.Sort
set_option linter.unusedVariables false
set_option linter.unusedSimpArgs false

theorem walk (W : World) (r : Option Addr) (k e : Nat) (s : Nat → Sct) (h31 : k ≤ e) (h32 : k ≤ 9223372036854775807) (H3 : SRow W r k 3 (scC s)) (o : Int) :
    Calls Try.prog 9 #[.slice r k e, .int .i64 o] W fun e w' => e = .returned (.bool true) ∧ Below W.heap.size W w' := spin_core scC_cl scC_rv scC_vi scC_pi r k e s o W H3

set_option maxRecDepth 100000 in
theorem lifted (os : Os) (started : os.Started) (H : Type) (enc : TypeId × Value → H) :
    ReturnsInHanded {} Try.checked os 9 .any (Rows.scrollPinsSpec.pre6 enc Try.prog Try.f9 Rows.scrollPinsRow.domain false) (Rows.scrollPinsSpec.post enc Try.prog Try.f9 false true false false) := by
  refine returnsInHanded_of_change (C := Try.checked) own_knob started (by kernel_rfl) Try.func9
    (ChangeSpec.witness6 (enc := enc) (C := Try.checked) false ⟨#[], #[.slice none 0 0, .int .i64 0], []⟩ 8 (by kernel_rfl) (by kernel_rfl) (by kernel_rfl) (by kernel_rfl)) ?_
  intro W base args ds gs before hval0 hW hcnd _
  have hval : ∀ (j : Nat) t v, Try.f9.params[j]? = some t → args[j]? = some v → Value.okWide Try.prog W .any base t v := hval0
  have hW' := hW
  obtain ⟨p, q, hA0, hV, rfl, hfz, hnd⟩ := hW
  have hA : DataW.TrodAll enc Try.prog W 0 (fun _ => true) true Try.f9.params.toList args.toList ds p := hA0
  have hAk := hA
  rw [Try.params9] at hA hval
  obtain ⟨v0, vs0, d0, ds0, p0, q0, hargs, rfl, rfl, h0, r0⟩ := trodAll_cons hA
  obtain ⟨v1, vs1, d1, ds1, p1, q1, rfl, rfl, rfl, h1, r1⟩ := trodAll_cons r0
  obtain ⟨rfl, rfl, rfl⟩ := trodAll_nil r1
  obtain rfl : args = #[v0, v1] := by cases args; simp_all
  obtain ⟨rfl, rfl⟩ := trodVars_none hV
  obtain ⟨q0x, n0, c0, f0, rfl, hc0, hn0, hr0⟩ := open_sect (hval 0 23 v0 rfl rfl) h0
  obtain ⟨a1, rfl, _, _, w1⟩ := open_int Try.underlying3 (hval 1 3 v1 rfl rfl) h1
  clear hA0 hval0
  simp only [List.append_nil] at hW'
  refine (walk W q0x n0 c0 f0 hc0 hn0 hr0 a1).mono fun e W' ⟨he, hg⟩ => ?_
  subst he
  have hargs' := kept_all hg _ _ _ _ (by rw [Try.params9]; intro t ht; simp only [List.mem_cons, List.not_mem_nil, or_false] at ht; (repeat' (rcases ht with rfl | ht)); all_goals first | (subst ht; exact ⟨by kernel_rfl, of_decide_eq_true (by kernel_rfl)⟩) | exact ⟨by kernel_rfl, of_decide_eq_true (by kernel_rfl)⟩) hAk (fun x hx => hW'.lt x (by simpa using hx))
  exact ⟨_, rfl, ⟨_, _, _, [], _, [], hW', trodAll_cons_mk (shut_bool Try.underlying4 _) trodAll_mk0, hargs', rfl, World.keptBut_mono (fun p hp => ⟨hp, Or.inr (by simpa using hp)⟩) (hg.frame _), fun h => by cases h⟩⟩

theorem over : Rows.scrollPinsRow.holds Try.pinned (OpenSpec.ofChange Rows.scrollPinsSpec) :=
  OpenClaim.holds_of_wide 9 Try.f9 rfl rfl rfl rfl rfl rfl rfl ⟨rfl, rfl, rfl, rfl, rfl⟩ rfl rfl rfl rfl rfl (by kernel_rfl) Try.func9 (by kernel_rfl)
    (of_decide_eq_true (by kernel_rfl)) (by unfold Func.isWrapper; first | (rw [if_pos (by decide +kernel)]; kernel_rfl) | (rw [if_neg (by decide +kernel)]; exact ⟨rfl, rfl⟩))
    (fun os started H enc _ => lifted os started H enc)

theorem proved : Rows.ScrollPinsSaid :=
  over
#print axioms proved
end Go.Proofs.Ytbmkamnjjfmdiaa.scrollPins
