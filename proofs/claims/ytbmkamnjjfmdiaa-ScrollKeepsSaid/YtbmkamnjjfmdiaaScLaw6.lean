/- The law ScrollKeeps returns true for all arguments, and leaves the arguments and all old memory as they were; no condition. -/
import Derived.Test.YtbmkamnjjfmdiaaRows
import Derived.Test.YtbmkamnjjfmdiaaFxOpen
import Derived.Test.YtbmkamnjjfmdiaaScC
import Derived.Test.YtbmkamnjjfmdiaaScL7
import Derived.WalkKit
import Derived.ProofKit
import Derived.OpenShut
namespace Go.Proofs.Ytbmkamnjjfmdiaa.scrollKeeps
open Go.ChangeShapes Go.WideShapes Go.ChangeAt Go.RowKit Go.Sort
set_option linter.unusedVariables false
set_option linter.unusedSimpArgs false

theorem walk (W : World) (p : Option Addr) (n c : Nat) (f : Nat → Int) (hc1 : n ≤ c) (hn1 : n ≤ 9223372036854775807) (H1 : Reads W p n f) (w1 : ∀ k, -9223372036854775808 ≤ f k ∧ f k ≤ 9223372036854775807) (q : Option Addr) (m d : Nat) (g : Nat → Int) (hc2 : m ≤ d) (hn2 : m ≤ 9223372036854775807) (H2 : Reads W q m g) (w2 : ∀ k, -9223372036854775808 ≤ g k ∧ g k ≤ 9223372036854775807) (t : Int) (o : Int) :
    Calls Try.prog 8 #[.slice p n c, .slice q m d, .int .i64 t, .int .i64 o] W fun e w' => e = .returned (.bool true) ∧ Below W.heap.size W w' := skp_core scC_cl scC_rv scC_vi scC_ke p q n m c d f g t o W H1 H2

set_option maxRecDepth 100000 in
theorem lifted (os : Os) (started : os.Started) (H : Type) (enc : TypeId × Value → H) :
    ReturnsInHanded {} Try.checked os 8 .any (Rows.scrollKeepsSpec.pre6 enc Try.prog Try.f8 Rows.scrollKeepsRow.domain false) (Rows.scrollKeepsSpec.post enc Try.prog Try.f8 false true false false) := by
  refine returnsInHanded_of_change (C := Try.checked) own_knob started (by kernel_rfl) Try.func8
    (ChangeSpec.witness6 (enc := enc) (C := Try.checked) false ⟨#[], #[.slice none 0 0, .slice none 0 0, .int .i64 0, .int .i64 0], []⟩ 8 (by kernel_rfl) (by kernel_rfl) (by kernel_rfl) (by kernel_rfl)) ?_
  intro W base args ds gs before hval0 hW hcnd _
  have hval : ∀ (j : Nat) t v, Try.f8.params[j]? = some t → args[j]? = some v → Value.okWide Try.prog W .any base t v := hval0
  have hW' := hW
  obtain ⟨p, q, hA0, hV, rfl, hfz, hnd⟩ := hW
  have hA : DataW.TrodAll enc Try.prog W 0 (fun _ => true) true Try.f8.params.toList args.toList ds p := hA0
  have hAk := hA
  rw [Try.params8] at hA hval
  obtain ⟨v0, vs0, d0, ds0, p0, q0, hargs, rfl, rfl, h0, r0⟩ := trodAll_cons hA
  obtain ⟨v1, vs1, d1, ds1, p1, q1, rfl, rfl, rfl, h1, r1⟩ := trodAll_cons r0
  obtain ⟨v2, vs2, d2, ds2, p2, q2, rfl, rfl, rfl, h2, r2⟩ := trodAll_cons r1
  obtain ⟨v3, vs3, d3, ds3, p3, q3, rfl, rfl, rfl, h3, r3⟩ := trodAll_cons r2
  obtain ⟨rfl, rfl, rfl⟩ := trodAll_nil r3
  obtain rfl : args = #[v0, v1, v2, v3] := by cases args; simp_all
  obtain ⟨rfl, rfl⟩ := trodVars_none hV
  obtain ⟨q0x, n0, c0, f0, rfl, hc0, hn0, hr0, hw0⟩ := open_slice (hval 0 26 v0 rfl rfl) h0
  obtain ⟨q1x, n1, c1, f1, rfl, hc1, hn1, hr1, hw1⟩ := open_slice (hval 1 26 v1 rfl rfl) h1
  obtain ⟨a2, rfl, _, _, w2⟩ := open_int Try.underlying3 (hval 2 3 v2 rfl rfl) h2
  obtain ⟨a3, rfl, _, _, w3⟩ := open_int Try.underlying3 (hval 3 3 v3 rfl rfl) h3
  clear hA0 hval0
  simp only [List.append_nil] at hW'
  refine (walk W q0x n0 c0 f0 hc0 hn0 hr0 hw0 q1x n1 c1 f1 hc1 hn1 hr1 hw1 a2 a3).mono fun e W' ⟨he, hg⟩ => ?_
  subst he
  have hargs' := kept_all hg _ _ _ _ (by rw [Try.params8]; intro t ht; simp only [List.mem_cons, List.not_mem_nil, or_false] at ht; (repeat' (rcases ht with rfl | ht)); all_goals first | (subst ht; exact ⟨by kernel_rfl, of_decide_eq_true (by kernel_rfl)⟩) | exact ⟨by kernel_rfl, of_decide_eq_true (by kernel_rfl)⟩) hAk (fun x hx => hW'.lt x (by simpa using hx))
  exact ⟨_, rfl, ⟨_, _, _, [], _, [], hW', trodAll_cons_mk (shut_bool Try.underlying4 _) trodAll_mk0, hargs', rfl, World.keptBut_mono (fun p hp => ⟨hp, Or.inr (by simpa using hp)⟩) (hg.frame _), fun h => by cases h⟩⟩

theorem over : Rows.scrollKeepsRow.holds Try.pinned (OpenSpec.ofChange Rows.scrollKeepsSpec) :=
  OpenClaim.holds_of_wide 8 Try.f8 rfl rfl rfl rfl rfl rfl rfl ⟨rfl, rfl, rfl, rfl, rfl⟩ rfl rfl rfl rfl rfl (by kernel_rfl) Try.func8 (by kernel_rfl)
    (of_decide_eq_true (by kernel_rfl)) (by unfold Func.isWrapper; first | (rw [if_pos (by decide +kernel)]; kernel_rfl) | (rw [if_neg (by decide +kernel)]; exact ⟨rfl, rfl⟩))
    (fun os started H enc _ => lifted os started H enc)

theorem proved : Rows.ScrollKeepsSaid :=
  over
#print axioms proved
end Go.Proofs.Ytbmkamnjjfmdiaa.scrollKeeps
