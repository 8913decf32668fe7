/- The law BidiOrders returns true for every slice of integers, and leaves the argument and all old memory as they were; no condition. -/
import Derived.Test.YtdkmjhbkjhikfaaRows
import Derived.Test.YtdkmjhbkjhikfaaBdOpen
import Derived.Test.YtdkmjhbkjhikfaaBdJ
import Derived.WalkKit
import Derived.ProofKit
import Derived.OpenShut
namespace Go.Proofs.Ytdkmjhbkjhikfaa.bidiOrders
open Go.ChangeShapes Go.WideShapes Go.ChangeAt Go.RowKit
set_option linter.unusedVariables false

/-- What the law has filled in: the levels cut to three bits. -/
def SmallF (B n : Nat) (w : World) (k : Nat) (wr : World) : Prop := Grew w wr ∧ ∃ X, IRow wr B n X

theorem wpList_append_zero (w : World) {ops : Array Oper} {rest : List Oper} {o : Oper} {a : Act} {Q : Exit → Act → World → Prop} (hgd : o.guard = none) (s x : Operand)
    (ho : o.op = .call { callee := .builtin .append, args := #[s, x], argTypes := #[22, 22] }) (p : Option Addr) (c : Nat) (hs : a.eval s = .slice none 0 0) (hx : a.eval x = .slice p 0 c)
    (h : wpList Try.prog ops Q rest (a.put o.dst (.slice none 0 0)) w) : wpList Try.prog ops Q (o :: rest) a w := by
  refine wpList_plain hgd fun K hK => ?_
  obtain ⟨i0, hi, hz0, hz1, hz2⟩ := info_parts info_int
  have hrun : (Builtin.append_ #[22, 22] o.type #[.slice none 0 0, .slice p 0 c]).run Try.prog w = .ok (.slice none 0 0) w := by
    cases p <;> simp [Builtin.append_, run_underlying Try.underlying22, sizeOf, typeInfo, hi, Builtin.lenOf, Builtin.firstCells, loadCells, loadCellsFrom]
  unfold Oper.wp execOp
  simp only [ho, resolve, invoke, builtin, Sem.run_bind, Sem.run_pure, Result.andThen_ok, List.map_toArray, List.map_cons, List.map_nil, hs, hx, hrun]
  exact hK _ _ h

set_option maxRecDepth 100000 in
set_option maxHeartbeats 4000000 in
theorem walk_main (p : Option Addr) (n c : Nat) (f : Nat → Int) (w : World) (hn : n ≤ 100) (hr : Reads w p n f) :
    Calls Try.prog 6 #[.slice p n c] w fun e w' => e = .returned (.bool true) ∧ Below w.heap.size w w' := by
  obtain ⟨i0, hi, hz0, hz1, hz2⟩ := info_parts info_int
  have HR := hide hr
  have hnz : ¬ (100 : Int) < (n : Int) := by omega
  clear hr
  by_cases hp : 0 < n
  · obtain ⟨b, off, rfl, hc⟩ := HR.out hp
    have HC := hide hc
    have hown := World.ownsRow_nil w w.heap.size 3 1
    clear hc
    go_enter Try.func6, Try.ntmps6
    go_wp2_with (at_builtin; refine wpList_append_drawn2 _ rfl _ _ 22 rfl w.heap.size 3 i0 (.int .i64 0) 1 8 Try.underlying22 hi hz0 hz1 hz2 rfl (by decide) _ _ _ rfl hown ⟨b, off, none⟩ n c (vals n f) rfl hp (by simp [vals]) ?c1 ?c2 ?c3 ?c4 ?c5 ?_)
    case c1 =>
      intro j u hj
      have hjn : j < n := by have := (List.getElem?_eq_some_iff.1 hj).1; simpa [vals] using this
      rw [vals_get f hjn] at hj
      first
        | (rw [HC.out j hjn]; exact hj)
        | (have hadd : (⟨b, off, none⟩ : Addr).add j = ⟨b, off + j, none⟩ := by (unfold Addr.add; split <;> simp_all)
           rw [hadd, HC.out j hjn]; exact hj)
    case c2 => intro u hu; simp [vals] at hu; obtain ⟨k, _, rfl⟩ := hu; rfl
    case c3 => unfold maxLen; omega
    case c4 => omega
    · intro v' w1 hown' hgrow hd _
      have G1 := hide ((Grew.refl w).appended hgrow hd (fun k h => by simp [Value.ownBlock] at h))
      have hown'' : w1.ownsRow w.heap.size 3 1 v' n (vals n f) := by simpa using hown'
      obtain ⟨ib, ic, rfl, hib, IR⟩ := own_crow hown'' hp
      have IR' := hide IR
      have hmk := make_ints n (by omega) w1
      have S0 : Hid (SmallF w1.heap.size n w1 0 (w1.alloc (.cells (ints n fun _ => 0) 3))) := ⟨(Grew.refl w1).alloc _, _, IRow.new w1 n _⟩
      clear hown' hown'' hgrow hd hown IR
      go_wp2
      generalize w1.alloc (.cells (ints n fun _ => 0) 3) = w2 at *
      clear hmk
      go_loopg [5] (n + 1) (fun gh vk wr => ∃ (k : Nat), vk = .int .i64 (k : Int) ∧ k ≤ n ∧ n - k < gh ∧ Hid (SmallF w1.heap.size n w1 k wr))
      case atStart => exact ⟨0, by go_num, by omega, by omega, S0⟩
      case round =>
        clear S0
        obtain ⟨wo, rfl⟩ : ∃ wo : World, wo = wr := ⟨_, rfl⟩
        obtain ⟨k, rfl, hk, hg, S⟩ := hrel
        by_cases hlt : k < n
        · have hltz : (k : Int) < (n : Int) := by omega
          obtain ⟨s1, X, s2⟩ := S.out
          have ck := (G1.out.trans s1).1.cell (p := ⟨b, off + k, none⟩) (lt_of_cell (HC.out k hlt)) |>.trans (HC.out k hlt)
          have oc := s2.cell hlt
          have of := s2.frozen k
          have NX : Hid (∀ x : Int, SmallF w1.heap.size n w1 (k + 1) (wo.setCell ⟨w1.heap.size, k, none⟩ (.int .i64 x))) := fun x => ⟨s1.setCell (Nat.le_refl _) _, _, s2.set_ k x⟩
          clear S s1 s2
          go_wp2
          go_roundg (n - k)
          case measure => omega
          case rel => exact ⟨k + 1, by go_num, by omega, by omega, hide (NX.out _)⟩
        · have hltz : ¬ (k : Int) < (n : Int) := by omega
          obtain rfl : n = k := by omega
          obtain ⟨s1, X, s2⟩ := S.out
          have G3 := hide (G1.out.trans s1)
          have R3 := hide (HR.out.grew G3.out)
          have I3 : Hid (Reads wo (some ⟨ib, 0, none⟩) n f) := fun _ => ⟨ib, 0, rfl, fun k hk => by rw [Nat.zero_add]; exact (IR'.out.same (s1.1.block ib IR'.out.lt)).cell hk⟩
          have X3 := hide s2.reads
          have KA := fun W g => hide (Order_all n ic (some ⟨ib, 0, none⟩) f W (I3.out.grew g) (by omega))
          have KB := fun W g => hide (refOrder_all n c (some ⟨b, off, none⟩) f W (R3.out.grew g) (by omega))
          have KC := fun W g => hide (Runs_all n ic (some ⟨ib, 0, none⟩) f W (I3.out.grew g) (by omega))
          have KD := fun W g => hide (refRuns_all n c (some ⟨b, off, none⟩) f W (R3.out.grew g) (by omega))
          have KE := fun W g => hide (Order_all n n (some ⟨w1.heap.size, 0, none⟩) X W (X3.out.grew g) (by omega))
          have KF := fun W g => hide (refOrder_all n n (some ⟨w1.heap.size, 0, none⟩) X W (X3.out.grew g) (by omega))
          have KG := fun W g => hide (equal_yes (some ⟨ib, 0, none⟩) (some ⟨b, off, none⟩) n ic c f W (by omega) (I3.out.grew g) (R3.out.grew g))
          clear S s1 s2 IR' G1
          go_wp2_with fail
          refine (KA _ (Grew.refl _)).out.mono ?_
          rintro e w4 ⟨v1, rfl, G4, O1⟩
          have G4' := hide G4
          have O1' := hide O1
          clear G4 O1
          go_wp2_with fail
          refine (KB _ G4'.out).out.mono ?_
          rintro e w5 ⟨v2, rfl, G5, O2⟩
          have G5' := hide (G4'.out.trans G5)
          have E1 := hide (equal_alike (ord_pair (by omega) (O1'.out.grew G5) O2))
          clear G5 O2 O1' G4'
          go_wp2_with fail
          refine E1.out.mono ?_
          rintro e w6 ⟨rfl, G6⟩
          have G6' := hide (G5'.out.trans G6)
          clear G6 E1 G5'
          go_wp2_with fail
          refine (KC _ G6'.out).out.mono ?_
          rintro e w7 ⟨v3, rfl, G7, O3⟩
          have G7' := hide (G6'.out.trans G7)
          have O3' := hide O3
          clear G7 O3 G6'
          go_wp2_with fail
          refine (KD _ G7'.out).out.mono ?_
          rintro e w8 ⟨v4, rfl, G8, O4⟩
          have G8' := hide (G7'.out.trans G8)
          have E2 := hide (equal_alike (run_pair (by omega) (O3'.out.grew G8) O4))
          clear G8 O4 O3' G7'
          go_wp2_with fail
          refine E2.out.mono ?_
          rintro e w9 ⟨rfl, G9⟩
          have G9' := hide (G8'.out.trans G9)
          clear G9 E2 G8'
          go_wp2_with fail
          refine (KE _ G9'.out).out.mono ?_
          rintro e w10 ⟨v5, rfl, G10, O5⟩
          have G10' := hide (G9'.out.trans G10)
          have O5' := hide O5
          clear G10 O5 G9'
          go_wp2_with fail
          refine (KF _ G10'.out).out.mono ?_
          rintro e w11 ⟨v6, rfl, G11, O6⟩
          have G11' := hide (G10'.out.trans G11)
          have E3 := hide (equal_alike (ord_pair (by omega) (O5'.out.grew G11) O6))
          clear G11 O6 O5' G10'
          go_wp2_with fail
          refine E3.out.mono ?_
          rintro e w12 ⟨rfl, G12⟩
          have G12' := hide (G11'.out.trans G12)
          clear G12 E3 G11'
          go_wp2_with fail
          refine (KG _ G12'.out).out.mono ?_
          rintro e w13 ⟨rfl, G13⟩
          have G13' := hide (G12'.out.trans G13)
          clear G13 G12' KA KB KC KD KE KF KG
          go_wp2_with fail
          refine (awake_any _).mono ?_
          rintro e w14 ⟨rfl, G14⟩
          have G14' := hide ((G3.out.trans G13'.out).trans G14)
          clear G14
          go_wp2
          go_ret
          exact ⟨rfl, G14'.out.1⟩
  · obtain rfl : n = 0 := by omega
    have hmk : (Instr.makeSlice 22 (.int .i64 0) (.int .i64 0)).run Try.prog w = .ok (.slice (some ⟨w.heap.size, 0, none⟩) 0 0) (w.alloc (.cells (ints 0 (fun _ => 0)) 3)) := make_ints 0 (by omega) w
    obtain ⟨X, S0⟩ : ∃ X : Nat → Int, Hid (Grew w (w.alloc (.cells (ints 0 fun _ => 0) 3)) ∧ IRow (w.alloc (.cells (ints 0 fun _ => 0) 3)) w.heap.size 0 X) := ⟨fun _ => 0, (Grew.refl w).alloc _, IRow.new w 0 _⟩
    clear hnz
    go_enter Try.func6, Try.ntmps6
    go_wp2_with (at_builtin; refine wpList_append_zero _ rfl _ _ rfl p c rfl rfl ?_)
    generalize w.alloc (.cells (ints 0 fun _ => 0) 3) = wo at *
    clear hmk
    refine wp_loop_rounds 1 ?_
    rw [rounds_succ]
    have G3 := hide S0.out.1
    have R3 := hide (HR.out.grew G3.out)
    have I3 : Hid (Reads wo none 0 f) := fun h => absurd h (by omega)
    have X3 := hide S0.out.2.reads
    have KA := fun W g => hide (Order_all 0 0 none f W (I3.out.grew g) (by omega))
    have KB := fun W g => hide (refOrder_all 0 c p f W (R3.out.grew g) (by omega))
    have KC := fun W g => hide (Runs_all 0 0 none f W (I3.out.grew g) (by omega))
    have KD := fun W g => hide (refRuns_all 0 c p f W (R3.out.grew g) (by omega))
    have KE := fun W g => hide (Order_all 0 0 (some ⟨w.heap.size, 0, none⟩) X W (X3.out.grew g) (by omega))
    have KF := fun W g => hide (refOrder_all 0 0 (some ⟨w.heap.size, 0, none⟩) X W (X3.out.grew g) (by omega))
    have KG := fun W g => hide (equal_yes none p 0 0 c f W (by omega) (I3.out.grew g) (R3.out.grew g))
    clear S0
    go_wp2_with fail
    refine (KA _ (Grew.refl _)).out.mono ?_
    rintro e w4 ⟨v1, rfl, G4, O1⟩
    have G4' := hide G4
    have O1' := hide O1
    clear G4 O1
    go_wp2_with fail
    refine (KB _ G4'.out).out.mono ?_
    rintro e w5 ⟨v2, rfl, G5, O2⟩
    have G5' := hide (G4'.out.trans G5)
    have E1 := hide (equal_alike (ord_pair (by omega) (O1'.out.grew G5) O2))
    clear G5 O2 O1' G4'
    go_wp2_with fail
    refine E1.out.mono ?_
    rintro e w6 ⟨rfl, G6⟩
    have G6' := hide (G5'.out.trans G6)
    clear G6 E1 G5'
    go_wp2_with fail
    refine (KC _ G6'.out).out.mono ?_
    rintro e w7 ⟨v3, rfl, G7, O3⟩
    have G7' := hide (G6'.out.trans G7)
    have O3' := hide O3
    clear G7 O3 G6'
    go_wp2_with fail
    refine (KD _ G7'.out).out.mono ?_
    rintro e w8 ⟨v4, rfl, G8, O4⟩
    have G8' := hide (G7'.out.trans G8)
    have E2 := hide (equal_alike (run_pair (by omega) (O3'.out.grew G8) O4))
    clear G8 O4 O3' G7'
    go_wp2_with fail
    refine E2.out.mono ?_
    rintro e w9 ⟨rfl, G9⟩
    have G9' := hide (G8'.out.trans G9)
    clear G9 E2 G8'
    go_wp2_with fail
    refine (KE _ G9'.out).out.mono ?_
    rintro e w10 ⟨v5, rfl, G10, O5⟩
    have G10' := hide (G9'.out.trans G10)
    have O5' := hide O5
    clear G10 O5 G9'
    go_wp2_with fail
    refine (KF _ G10'.out).out.mono ?_
    rintro e w11 ⟨v6, rfl, G11, O6⟩
    have G11' := hide (G10'.out.trans G11)
    have E3 := hide (equal_alike (ord_pair (by omega) (O5'.out.grew G11) O6))
    clear G11 O6 O5' G10'
    go_wp2_with fail
    refine E3.out.mono ?_
    rintro e w12 ⟨rfl, G12⟩
    have G12' := hide (G11'.out.trans G12)
    clear G12 E3 G11'
    go_wp2_with fail
    refine (KG _ G12'.out).out.mono ?_
    rintro e w13 ⟨rfl, G13⟩
    have G13' := hide (G12'.out.trans G13)
    clear G13 G12' KA KB KC KD KE KF KG
    go_wp2_with fail
    refine (awake_any _).mono ?_
    rintro e w14 ⟨rfl, G14⟩
    have G14' := hide ((G3.out.trans G13'.out).trans G14)
    clear G14
    go_wp2
    go_ret
    exact ⟨rfl, G14'.out.1⟩

theorem walk (p : Option Addr) (n c : Nat) (f : Nat → Int) (hc : n ≤ c) (hn : n ≤ 9223372036854775807) {w : World} (hr : Reads w p n f) (hf : ∀ k, -9223372036854775808 ≤ f k ∧ f k ≤ 9223372036854775807) (_ : World) :
    Calls Try.prog 6 #[.slice p n c] w fun e w' => e = .returned (.bool true) ∧ Below w.heap.size w w' := by
  by_cases h : n ≤ 100
  · exact walk_main p n c f w h hr
  · have hz : (100 : Int) < (n : Int) := by omega
    clear hr hf
    go_enter Try.func6, Try.ntmps6
    go_wp2
    go_ret
    exact ⟨rfl, Below.refl _ _⟩

set_option maxRecDepth 100000 in
theorem lifted (os : Os) (started : os.Started) (H : Type) (enc : TypeId × Value → H) :
    ReturnsInHanded {} Try.checked os 6 .any (Rows.bidiOrdersSpec.pre6 enc Try.prog Try.f6 Rows.bidiOrdersRow.domain false) (Rows.bidiOrdersSpec.post enc Try.prog Try.f6 false true false false) := by
  refine returnsInHanded_of_change (C := Try.checked) own_knob started (by kernel_rfl) Try.func6
    (ChangeSpec.witness6 (enc := enc) (C := Try.checked) false ⟨#[], #[.slice none 0 0], []⟩ 8 (by kernel_rfl) (by kernel_rfl) (by kernel_rfl) (by kernel_rfl)) ?_
  intro W base args ds gs before hval0 hW hcnd _
  have hval : ∀ (j : Nat) t v, Try.f6.params[j]? = some t → args[j]? = some v → Value.okWide Try.prog W .any base t v := hval0
  have hW' := hW
  obtain ⟨p, q, hA0, hV, rfl, hfz, hnd⟩ := hW
  have hA : DataW.TrodAll enc Try.prog W 0 (fun _ => true) true Try.f6.params.toList args.toList ds p := hA0
  have hAk := hA
  rw [Try.params6] at hA hval
  obtain ⟨v0, vs0, d0, ds0, p0, q0, hargs, rfl, rfl, h0, r0⟩ := trodAll_cons hA
  obtain ⟨rfl, rfl, rfl⟩ := trodAll_nil r0
  obtain rfl : args = #[v0] := by cases args; simp_all
  obtain ⟨rfl, rfl⟩ := trodVars_none hV
  obtain ⟨s0, n0, c0, f0, rfl, hc0, hn0, hr0, hf0⟩ := open_slice (hval 0 22 v0 rfl rfl) h0
  clear hA0 hval0
  simp only [List.append_nil] at hW'
  refine (walk s0 n0 c0 f0 hc0 hn0 hr0 hf0 W).mono fun e W' ⟨he, hg⟩ => ?_
  subst he
  have hargs' := kept_all hg _ _ _ _ (by rw [Try.params6]; intro t ht; simp only [List.mem_cons, List.not_mem_nil, or_false] at ht; (repeat' (rcases ht with rfl | ht)); all_goals first | (subst ht; exact ⟨by kernel_rfl, of_decide_eq_true (by kernel_rfl)⟩) | exact ⟨by kernel_rfl, of_decide_eq_true (by kernel_rfl)⟩) hAk (fun x hx => hW'.lt x (by simpa using hx))
  exact ⟨_, rfl, ⟨_, _, _, [], _, [], hW', trodAll_cons_mk (shut_bool Try.underlying4 _) trodAll_mk0, hargs', rfl, World.keptBut_mono (fun p hp => ⟨hp, Or.inr (by simpa using hp)⟩) (hg.frame _), fun h => by cases h⟩⟩

theorem over : Rows.bidiOrdersRow.holds Try.pinned (OpenSpec.ofChange Rows.bidiOrdersSpec) :=
  OpenClaim.holds_of_wide 6 Try.f6 rfl rfl rfl rfl rfl rfl rfl ⟨rfl, rfl, rfl, rfl, rfl⟩ rfl rfl rfl rfl rfl (by kernel_rfl) Try.func6 (by kernel_rfl)
    (of_decide_eq_true (by kernel_rfl)) (by unfold Func.isWrapper; first | (rw [if_pos (by decide +kernel)]; kernel_rfl) | (rw [if_neg (by decide +kernel)]; exact ⟨rfl, rfl⟩))
    (fun os started H enc _ => lifted os started H enc)

theorem proved : Rows.BidiOrdersSaid :=
  over
#print axioms proved
end Go.Proofs.Ytdkmjhbkjhikfaa.bidiOrders
