/- The law FixedShares returns true for every integer and every slice of integers, and leaves the arguments and all old memory as they were; no condition. -/
import Derived.Test.YtdalcmdmkofjhaaRows
import Derived.Test.YtdalcmdmkofjhaaFxRShare
import Derived.WalkKit
import Derived.ProofKit
import Derived.OpenShut
namespace Go.Proofs.Ytdalcmdmkofjhaa.fixedShares
open Go.ChangeShapes Go.WideShapes Go.ChangeAt Go.RowKit
set_option linter.unusedVariables false

set_option maxHeartbeats 4000000 in
set_option maxRecDepth 100000 in
theorem walk_main (total : Int) (b off : Nat) (n c : Nat) (f : Nat → Int) (w : World) (hn : 0 < n) (h300 : n ≤ 300) (hr : Reads w (some ⟨b, off, none⟩) n f) :
    Calls Try.prog 7 #[.int .i64 total, .slice (some ⟨b, off, none⟩) n c] w fun e w' => e = .returned (.bool true) ∧ Below w.heap.size w w' := by
  have A := hide awake_any
  have hcell : ∀ k, k < n → w.cell? ⟨b, off + k, none⟩ = some (.int .i64 (f k)) := by
    obtain ⟨b', off', e, hc⟩ := hr hn
    simp only [Option.some.injEq, Addr.mk.injEq] at e
    obtain ⟨rfl, rfl, _⟩ := e
    exact hc
  have HR := hide hr
  have HX := hide hcell
  have hz : ¬ (300 : Int) < (n : Int) := by omega
  obtain ⟨i0, hi, hz0, hz1, hz2⟩ := info_parts info_int
  have h63 : 0 + n ≤ maxLen := by unfold maxLen; omega
  have HN : Hid (∀ (j : Nat) (u : Value), (ints n f).toList[j]? = some u → w.cell? ((⟨b, off, none⟩ : Addr).add j) = some u) := by
    intro j u hu
    have hj : j < n := by
      rcases Nat.lt_or_ge j n with h | h
      · exact h
      · rw [List.getElem?_eq_none (by simpa using h)] at hu; cases hu
    rw [Go.WideShapes.add_plain, HX.out j hj]
    rw [Array.getElem?_toList, ints_get f hj] at hu
    exact hu
  have HO : Hid (∀ u ∈ (ints n f).toList, Value.oneCell' u = true) := by
    intro u hu
    simp only [ints, Array.toList_ofFn, List.mem_ofFn] at hu
    obtain ⟨k, rfl⟩ := hu
    rfl
  clear hr hcell
  go_enter Try.func7, Try.ntmps7
  go_wp2_with (at_builtin; refine wpList_append_own _ rfl _ _ 30 rfl w.heap.size 3 i0 (.int .i64 0) 1 8 Try.underlying30 hi hz0 hz1 hz2 rfl (by decide) (.slice none 0 0) 0 [] rfl ⟨by simp, Or.inl ⟨rfl, rfl⟩⟩ ⟨b, off, none⟩ n c (ints n f).toList rfl (by simp) HN.out HO.out h63 (by omega) (Nat.le_refl _) ?_)
  intro v' w1 hown hgrow _
  have hown : w1.ownsRow w.heap.size 3 1 v' n (ints n f).toList := hown
  obtain ⟨g, cap, rfl⟩ : ∃ g cap, v' = .slice (some ⟨g, 0, none⟩) n cap := by
    rcases hown.2 with ⟨_, h⟩ | ⟨g, cap, _, h, _⟩
    · omega
    · exact ⟨g, cap, h⟩
  have hcells : ∀ k, k < n → w1.cell? ⟨g, 0 + k, none⟩ = some (.int .i64 (f k)) := fun k hk => by
    rw [Nat.zero_add]
    rw [hown.cellAt k (by omega), Array.getElem?_toList, ints_get f hk]
  have B1 := hide ((Below.refl w.heap.size w).grown hgrow (Nat.le_refl _) (fun k hk => by cases hk))
  have R1 : Reads w1 (some ⟨g, 0, none⟩) n f := fun _ => ⟨g, 0, rfl, hcells⟩
  have R1 := hide R1
  clear hown hgrow hcells HN HO hi hz0 hz1 hz2 h63
  by_cases hb : InShare total f n
  · have C := hide (share_ok total (some ⟨g, 0, none⟩) n cap f w1 R1.out hb)
    go_wp2_with fail
    refine C.out.mono ?_
    rintro e w2 ⟨rfl, hB, P, hP, hrow⟩
    have B2 := hide (B1.out.trans (hB.mono B1.out.size))
    have R2 := hide (R1.out.below hB)
    have HP := hide hP
    have HQ := hide hrow.reads
    have D := hide (rshare_ok total (some ⟨b, off, none⟩) n c f w2 (HR.out.below B2.out) hb)
    clear C hB hP hrow B1 R1
    go_wp2_with fail
    refine D.out.mono ?_
    rintro e w3 ⟨rfl, hB, P', hP', hrow'⟩
    have R3 := hide (R2.out.below hB)
    have Q3 := hide (HQ.out.below hB)
    have B3 := hide (B2.out.trans (hB.mono B2.out.size))
    have E := hide (equal_yes (some ⟨w1.heap.size, 0, none⟩) (some ⟨w2.heap.size, 0, none⟩) n n n P w3 (by omega) Q3.out ((hrow'.congr (fun i hi => hP'.unique HP.out hi)).reads))
    clear D hB hP' hrow' B2 R2 HQ HP Q3
    go_wp2_with fail
    refine E.out.mono ?_
    rintro e w4 ⟨rfl, k, rfl⟩
    have F := hide (equal_yes (some ⟨g, 0, none⟩) (some ⟨b, off, none⟩) n cap c f (w3.drewN k) (by omega) (R3.out.drewN k) ((HR.out.below B3.out).drewN k))
    clear E R3
    go_wp2_with fail
    refine F.out.mono ?_
    rintro e w5 ⟨rfl, k', rfl⟩
    clear F
    go_wp2_with fail
    refine (A.out _).mono ?_
    rintro e w6 ⟨rfl, hB⟩
    have B4 : Hid (Below w.heap.size w w6) := by
      have h1 : Below w.heap.size w (w3.drewN (k + k')) := ⟨B3.out.os, B3.out.tape, B3.out.output, B3.out.size, B3.out.block⟩
      exact h1.trans (hB.mono B3.out.size)
    clear hB B3
    go_wp2
    go_ret
    exact ⟨rfl, B4.out⟩
  · have C := hide (share_err total (some ⟨g, 0, none⟩) n cap f w1 R1.out hb)
    have D := hide (rshare_err total (some ⟨b, off, none⟩) n c f w1 (HR.out.below B1.out) hb)
    obtain ⟨code, hcode⟩ : ∃ code : Int, code = if 100 < n then 2 else 1 := ⟨_, rfl⟩
    rw [← hcode] at C D
    clear hcode
    go_wp2_with fail
    refine C.out.mono ?_
    rintro e w2 ⟨rfl, rfl⟩
    go_wp2_with fail
    refine D.out.mono ?_
    rintro e w2 ⟨rfl, rfl⟩
    have E := hide (equal_yes none none 0 0 0 f w1 (by omega) (fun h => absurd h (Nat.lt_irrefl _)) (fun h => absurd h (Nat.lt_irrefl _)))
    clear C D
    go_wp2_with fail
    refine E.out.mono ?_
    rintro e w4 ⟨rfl, k, rfl⟩
    have F := hide (equal_yes (some ⟨g, 0, none⟩) (some ⟨b, off, none⟩) n cap c f (w1.drewN k) (by omega) (R1.out.drewN k) ((HR.out.below B1.out).drewN k))
    clear E R1
    go_wp2_with fail
    refine F.out.mono ?_
    rintro e w5 ⟨rfl, k', rfl⟩
    clear F
    go_wp2_with fail
    refine (A.out _).mono ?_
    rintro e w6 ⟨rfl, hB⟩
    have B4 : Hid (Below w.heap.size w w6) := by
      have h1 : Below w.heap.size w (w1.drewN (k + k')) := ⟨B1.out.os, B1.out.tape, B1.out.output, B1.out.size, B1.out.block⟩
      exact h1.trans (hB.mono B1.out.size)
    clear hB B1
    go_wp2
    go_ret
    exact ⟨rfl, B4.out⟩


/-- append of nothing to nil is nil. -/
theorem append_nothing {w : World} {ops : Array Oper} {rest : List Oper} {o : Oper} {a : Act} {Q : Exit → Act → World → Prop} (hgd : o.guard = none) (s x : Operand)
    (ho : o.op = .call { callee := .builtin .append, args := #[s, x], argTypes := #[30, 30] }) (p : Option Addr) (c : Nat) (hs : a.eval s = .slice none 0 0) (hx : a.eval x = .slice p 0 c)
    (h : wpList Try.prog ops Q rest (a.put o.dst (.slice none 0 0)) w) : wpList Try.prog ops Q (o :: rest) a w := by
  obtain ⟨i, hi, _, _, _⟩ := info_parts info_int
  refine wpList_plain hgd fun K hK => ?_
  have hrun : ∀ ty, (Builtin.append_ #[30, 30] ty #[.slice none 0 0, .slice p 0 c]).run Try.prog w = .ok (.slice none 0 0) w := fun ty => by
    rcases p with _ | ad
    · simp [Builtin.append_, run_underlying Try.underlying30, sizeOf, typeInfo, hi, Builtin.lenOf, Builtin.firstCells]
    · simp [Builtin.append_, run_underlying Try.underlying30, sizeOf, typeInfo, hi, Builtin.lenOf, Builtin.firstCells, loadCells, loadCellsFrom, Result.andThen]
  unfold Oper.wp
  simp [execOp, ho, resolve, invoke, builtin, hs, hx, hrun, Result.andThen]
  exact hK _ _ h

set_option maxHeartbeats 4000000 in
set_option maxRecDepth 100000 in
theorem walk_nil (total : Int) (q : Option Addr) (c : Nat) (f : Nat → Int) (w : World) :
    Calls Try.prog 7 #[.int .i64 total, .slice q 0 c] w fun e w' => e = .returned (.bool true) ∧ Below w.heap.size w w' := by
  have A := hide awake_any
  have no : ∀ (W : World) (p : Option Addr), Reads W p 0 f := fun W p h => absurd h (Nat.lt_irrefl _)
  have NO := hide no
  clear no
  by_cases hb : InShare total f 0
  · have C := hide (fun (W : World) => share_ok total none 0 0 f W (NO.out _ _) hb)
    have D := hide (fun (W : World) => rshare_ok total q 0 c f W (NO.out _ _) hb)
    clear hb
    go_enter Try.func7, Try.ntmps7
    go_wp2_with (at_builtin; refine append_nothing rfl _ _ rfl q c rfl rfl ?_)
    go_wp2_with fail
    refine (C.out _).mono ?_
    rintro e w2 ⟨rfl, hB, _⟩
    have B2 := hide hB
    clear hB
    go_wp2_with fail
    refine (D.out _).mono ?_
    rintro e w3 ⟨rfl, hB, _⟩
    have B3 := hide (B2.out.trans (hB.mono B2.out.size))
    clear hB B2
    go_wp2_with fail
    refine (equal_yes _ _ 0 0 0 f w3 (by omega) (NO.out _ _) (NO.out _ _)).mono ?_
    rintro e w4 ⟨rfl, k, rfl⟩
    go_wp2_with fail
    refine (equal_yes _ _ 0 0 c f _ (by omega) (NO.out _ _) (NO.out _ _)).mono ?_
    rintro e w5 ⟨rfl, k', rfl⟩
    go_wp2_with fail
    refine (A.out _).mono ?_
    rintro e w6 ⟨rfl, hB⟩
    have B4 : Hid (Below w.heap.size w w6) := by
      have h1 : Below w.heap.size w (w3.drewN (k + k')) := ⟨B3.out.os, B3.out.tape, B3.out.output, B3.out.size, B3.out.block⟩
      exact h1.trans (hB.mono B3.out.size)
    clear hB B3
    go_wp2
    go_ret
    exact ⟨rfl, B4.out⟩
  · have C := hide (fun (W : World) => share_err total none 0 0 f W (NO.out _ _) hb)
    have D := hide (fun (W : World) => rshare_err total q 0 c f W (NO.out _ _) hb)
    rw [if_neg (by omega)] at C D
    clear hb
    go_enter Try.func7, Try.ntmps7
    go_wp2_with (at_builtin; refine append_nothing rfl _ _ rfl q c rfl rfl ?_)
    go_wp2_with fail
    refine (C.out _).mono ?_
    rintro e w2 ⟨rfl, rfl⟩
    go_wp2_with fail
    refine (D.out _).mono ?_
    rintro e w2 ⟨rfl, rfl⟩
    go_wp2_with fail
    refine (equal_yes _ _ 0 0 0 f _ (by omega) (NO.out _ _) (NO.out _ _)).mono ?_
    rintro e w4 ⟨rfl, k, rfl⟩
    go_wp2_with fail
    refine (equal_yes _ _ 0 0 c f _ (by omega) (NO.out _ _) (NO.out _ _)).mono ?_
    rintro e w5 ⟨rfl, k', rfl⟩
    go_wp2_with fail
    refine (A.out _).mono ?_
    rintro e w6 ⟨rfl, hB⟩
    have B4 : Hid (Below w.heap.size w w6) := ⟨hB.os, hB.tape, hB.output, hB.size, hB.block⟩
    clear hB
    go_wp2
    go_ret
    exact ⟨rfl, B4.out⟩

theorem walk (total : Int) (w0 : (Lit.int .i64 total).wf = true) (q : Option Addr) (n c : Nat) (f : Nat → Int) (hc : n ≤ c) (hn : n ≤ 9223372036854775807) {w : World} (hr : Reads w q n f) (hf : ∀ k, -9223372036854775808 ≤ f k ∧ f k ≤ 9223372036854775807) (_ : World) :
    Calls Try.prog 7 #[.int .i64 total, .slice q n c] w fun e w' => e = .returned (.bool true) ∧ Below w.heap.size w w' := by
  clear hf
  by_cases hb : 300 < n
  · have hz : (300 : Int) < (n : Int) := by omega
    clear hr w0
    go_enter Try.func7, Try.ntmps7
    go_wp2
    go_ret
    exact ⟨rfl, Below.refl _ _⟩
  · rcases Nat.eq_zero_or_pos n with rfl | hp
    · exact walk_nil total q c f w
    · obtain ⟨b, off, rfl, _⟩ := id hr hp
      exact walk_main total b off n c f w hp (by omega) hr

set_option maxRecDepth 100000 in
theorem lifted (os : Os) (started : os.Started) (H : Type) (enc : TypeId × Value → H) :
    ReturnsInHanded {} Try.checked os 7 .any (Rows.fixedSharesSpec.pre6 enc Try.prog Try.f7 Rows.fixedSharesRow.domain false) (Rows.fixedSharesSpec.post enc Try.prog Try.f7 false true false false) := by
  refine returnsInHanded_of_change (C := Try.checked) own_knob started (by kernel_rfl) Try.func7
    (ChangeSpec.witness6 (enc := enc) (C := Try.checked) false ⟨#[], #[.int .i64 0, .slice none 0 0], []⟩ 8 (by kernel_rfl) (by kernel_rfl) (by kernel_rfl) (by kernel_rfl)) ?_
  intro W base args ds gs before hval0 hW hcnd _
  have hval : ∀ (j : Nat) t v, Try.f7.params[j]? = some t → args[j]? = some v → Value.okWide Try.prog W .any base t v := hval0
  have hW' := hW
  obtain ⟨p, q, hA0, hV, rfl, hfz, hnd⟩ := hW
  have hA : DataW.TrodAll enc Try.prog W 0 (fun _ => true) true Try.f7.params.toList args.toList ds p := hA0
  have hAk := hA
  rw [Try.params7] at hA hval
  obtain ⟨v0, vs0, d0, ds0, p0, q0, hargs, rfl, rfl, h0, r0⟩ := trodAll_cons hA
  obtain ⟨v1, vs1, d1, ds1, p1, q1, rfl, rfl, rfl, h1, r1⟩ := trodAll_cons r0
  obtain ⟨rfl, rfl, rfl⟩ := trodAll_nil r1
  obtain rfl : args = #[v0, v1] := by cases args; simp_all
  obtain ⟨rfl, rfl⟩ := trodVars_none hV
  obtain ⟨a0, rfl, rfl, rfl, w0⟩ := open_int Try.underlying3 (hval 0 3 v0 rfl rfl) h0
  obtain ⟨s1, n1, c1, f1, rfl, hc1, hn1, hr1, hf1⟩ := open_slice (hval 1 30 v1 rfl rfl) h1
  clear hA0 hval0
  simp only [List.append_nil] at hW'
  refine (walk a0 w0 s1 n1 c1 f1 hc1 hn1 hr1 hf1 W).mono fun e W' ⟨he, hg⟩ => ?_
  subst he
  have hargs' := kept_all hg _ _ _ _ (by rw [Try.params7]; intro t ht; simp only [List.mem_cons, List.not_mem_nil, or_false] at ht; (repeat' (rcases ht with rfl | ht)); all_goals first | (subst ht; exact ⟨by kernel_rfl, of_decide_eq_true (by kernel_rfl)⟩) | exact ⟨by kernel_rfl, of_decide_eq_true (by kernel_rfl)⟩) hAk (fun x hx => hW'.lt x (by simpa using hx))
  exact ⟨_, rfl, ⟨_, _, _, [], _, [], hW', trodAll_cons_mk (shut_bool Try.underlying4 _) trodAll_mk0, hargs', rfl, World.keptBut_mono (fun p hp => ⟨hp, Or.inr (by simpa using hp)⟩) (hg.frame _), fun h => by cases h⟩⟩

theorem over : Rows.fixedSharesRow.holds Try.pinned (OpenSpec.ofChange Rows.fixedSharesSpec) :=
  OpenClaim.holds_of_wide 7 Try.f7 rfl rfl rfl rfl rfl rfl rfl ⟨rfl, rfl, rfl, rfl, rfl⟩ rfl rfl rfl rfl rfl (by kernel_rfl) Try.func7 (by kernel_rfl)
    (of_decide_eq_true (by kernel_rfl)) (by unfold Func.isWrapper; first | (rw [if_pos (by decide +kernel)]; kernel_rfl) | (rw [if_neg (by decide +kernel)]; exact ⟨rfl, rfl⟩))
    (fun os started H enc _ => lifted os started H enc)

theorem proved : Rows.FixedSharesSaid :=
  over
#print axioms proved
end Go.Proofs.Ytdalcmdmkofjhaa.fixedShares
