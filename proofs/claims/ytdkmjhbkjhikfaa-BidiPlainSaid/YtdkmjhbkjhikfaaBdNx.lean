/- What nextRuns returns where there is one run. -/
import Derived.Test.YtdkmjhbkjhikfaaBdM
import Derived.Test.YtdkmjhbkjhikfaaBdE
namespace Go.Proofs.Ytdkmjhbkjhikfaa
open Go.RowKit Go.Sort Go.Maps
open Go.ChangeMaps (setBlock)
set_option linter.unusedVariables false
set_option linter.unusedSimpArgs false

theorem Grew.setBlock {a w : World} (h : Grew a w) {b : Nat} (hb : a.heap.size ≤ b) (o : Obj) : Grew a (Go.ChangeMaps.setBlock w b o) :=
  h.trans' ⟨by simp [Go.ChangeMaps.setBlock], rfl, rfl, rfl, rfl⟩ (fun k hk => by
    show (w.heap.setIfInBounds b o)[k]? = _
    rw [Array.getElem?_setIfInBounds, if_neg (by omega)])
theorem ownsMap_same {w w' : World} {P : Program} {k : TypeId} {R : Value → Option (DataW Unit × List MemPlace)} {b n : Nat} {D : DataW Unit} (h : w.ownsMap P k R b n D) (g : w'.heap[b]? = w.heap[b]?) : w'.ownsMap P k R b n D := by
  obtain ⟨es, cl, h1, h2⟩ := h; exact ⟨es, cl, g.trans h1, h2⟩

set_option maxRecDepth 100000 in
set_option maxHeartbeats 4000000 in
theorem nextRuns_any (pb gb cb lb n kb kc rb rc : Nat) (vt : Value) (base : Int) (g c l : Nat → Int) (w : World) (H : ParAt w pb gb cb lb n vt base g c l) (hk : CRow w kb kc n idF) (hr : PRow w rb 69 0 n) (hs : ∀ k, k < n → Sm (g k)) (hn : n ≤ 100000) (hp : 0 < n) :
    Calls Try.prog 44 #[.pointer (some ⟨pb, 0, none⟩), .slice (some ⟨kb, 0, none⟩) n kc, .slice (some ⟨rb, 0, none⟩) 1 rc] w fun e w' => ∃ b, e = .returned (.slice (some ⟨b, 0, none⟩) 1 1) ∧ Grew w w' ∧ w.heap.size ≤ b ∧ IRow w' b 1 (fun _ => -1) := by
  have hmm := @run_makeMap Try.prog
  have HH := hide H
  have HK := hide hk
  have HR := hide hr
  have HS := hide hs
  clear H hk hr hs
  obtain ⟨B, hB⟩ : ∃ B, B = w.heap.size := ⟨_, rfl⟩
  have M0 := World.ownsMap_made w Try.prog 3 RU
  have G1 : Grew w (w.alloc (.map #[] 0)) := (Grew.refl w).alloc _
  have hsz : (w.alloc (.map #[] 0)).heap.size = B + 1 := by simp [hB]
  go_enter Try.func44, Try.ntmps44
  go_wp2
  rw [← hB] at M0 ⊢
  have hBw := hide (Nat.le_of_eq hB.symm)
  generalize w.alloc (.map #[] 0) = w1 at *
  clear hmm hB
  have R1 := hide (HR.out.grew G1)
  have K1 := hide (HK.out.same (G1.1.block kb HK.out.lt))
  have r0 := R1.out.cell0
  have r1 := R1.out.cell1
  have k0 : (w1.alloc (.cells #[.int .i64 0, .int .i64 n] 69)).cell? ⟨kb, 0, none⟩ = some (.int .i64 0) := (K1.out.same (heap_alloc_old w1 _ (r := kb) K1.out.lt)).cell hp
  have MA := ownsMap_same M0 (heap_alloc_old w1 (.cells #[.int .i64 0, .int .i64 n] 69) (r := B) (by omega))
  have GA : Hid (Grew w (w1.alloc (.cells #[.int .i64 0, .int .i64 n] 69))) := G1.alloc _
  have hpz : (0 : Int) < (n : Int) := by omega
  have hnz : ¬ (n : Int) ≤ 0 := by omega
  refine wp_loop_rounds 2 ?_
  rw [rounds_succ]
  go_wp2_with (at_mapUpdate; refine wpList_map_first _ rfl _ _ _ rfl B rfl MA rfl rfl ?_)
  intro es clock HM
  have G2 := hide (GA.out.setBlock hBw.out (.map es clock))
  clear k0 MA GA r0 r1 hsz M0 G1
  generalize setBlock (w1.alloc (.cells #[.int .i64 0, .int .i64 n] 69)) B (.map es clock) = w2 at *
  have HM2 := hide HM
  clear HM
  have K2' := hide (HK.out.same (G2.out.1.block kb HK.out.lt))
  have H2 := hide (HH.out.grew G2.out)
  have b2 := H2.out.blk.cell 2 rfl
  have KM := hide (matches_any gb n g w2 H2.out.giv HS.out hn)
  go_wp2
  rw [rounds_succ]
  go_wp2_with fail
  refine KM.out.mono ?_
  rintro e w3 ⟨eb, rfl, G3, heb, E3⟩
  have G3' := hide (G2.out.trans G3)
  have HM3 := hide (HM2.out.same (G3.1.block B HM2.out.lt))
  have E3' := hide E3
  have H3 := hide (HH.out.grew G3'.out)
  have R3 := hide (HR.out.grew G3'.out)
  have K3 := hide (HK.out.same (G3'.out.1.block kb HK.out.lt))
  clear G3 E3 b2 KM H2 K2' HM2 K1 R1
  have hmk : (Instr.makeSlice 22 (.int .i64 1) (.int .i64 1)).run Try.prog w3 = .ok (.slice (some ⟨w3.heap.size, 0, none⟩) 1 1) (w3.alloc (.cells (ints 1 (fun _ => 0)) 3)) := make_ints 1 (by omega) w3
  have hlt3 := hide E3'.out.lt
  obtain ⟨m, hm⟩ : ∃ m, n = m + 1 := ⟨n - 1, by omega⟩
  have hml := hide (show m < n by omega)
  have e1 : (n : Int) - 1 = (m : Int) := by omega
  have hmn : (m : Int) < (n : Int) := by omega
  have hm0 : (0 : Int) ≤ (m : Int) := by omega
  have hnn : ((n : Nat) : Int) ≠ 0 := by omega
  have sg := HS.out m (by omega)
  clear hm
  obtain ⟨N, hN⟩ : ∃ N, N = w3.heap.size := ⟨_, rfl⟩
  have G4 : Hid (Grew w (w3.alloc (.cells (ints 1 (fun _ => 0)) 3)) ∧ Grew w3 (w3.alloc (.cells (ints 1 (fun _ => 0)) 3))) := ⟨G3'.out.alloc _, (Grew.refl w3).alloc _⟩
  have I4 : Hid (IRow (w3.alloc (.cells (ints 1 (fun _ => 0)) 3)) N 1 (fun _ => 0)) := by subst hN; exact IRow.new w3 1 _
  have hNw : Hid (w.heap.size ≤ N) := by show _ ≤ N; rw [hN]; exact G3'.out.size
  go_wp2
  rw [← hN]
  have hN3 := hide (Nat.le_of_eq hN.symm)
  clear hN hmk
  generalize w3.alloc (.cells (ints 1 (fun _ => 0)) 3) = w4 at *
  have R4 := hide (R3.out.grew G4.out.2)
  have r0 := R4.out.cell0
  have r1 := R4.out.cell1
  have c4 := I4.out.crow
  have HA : Hid (Grew w4 (w4.alloc (.cells #[.int .i64 0, .int .i64 n] 69))) := (Grew.refl w4).alloc _
  have cA := (I4.out.grew HA.out).cell (i := 0) (by omega)
  have fA := (I4.out.grew HA.out).frozen 0
  have B6 : Hid (But N w4 ((w4.alloc (.cells #[.int .i64 0, .int .i64 n] 69)).setCell ⟨N, 0, none⟩ (.int .i64 (-1)))) := (But.of_grew (b := N) HA.out).setCell rfl _
  have I6 : Hid (IRow ((w4.alloc (.cells #[.int .i64 0, .int .i64 n] 69)).setCell ⟨N, 0, none⟩ (.int .i64 (-1))) N 1 (fun _ => -1)) := ((I4.out.grew HA.out).set_ 0 (-1)).congr fun j hj => if_pos (by omega)
  have kbN : Hid (kb ≠ N) := by show kb ≠ N; have := K3.out.lt; have := hN3.out; omega
  have ebN : Hid (eb ≠ N) := by show eb ≠ N; have := hlt3.out; have := hN3.out; omega
  have H4 := hide (H3.out.grew G4.out.2)
  have gbN : Hid (gb ≠ N) := by show gb ≠ N; have := H3.out.giv.lt; have := hN3.out; omega
  have pbN : Hid (pb ≠ N) := by show pb ≠ N; have := H3.out.blk.lt; have := hN3.out; omega
  have BN : Hid (B ≠ N) := by show B ≠ N; have := HM3.out.lt; have := hN3.out; omega
  have k6 : ((w4.alloc (.cells #[.int .i64 0, .int .i64 n] 69)).setCell ⟨N, 0, none⟩ (.int .i64 (-1))).cell? ⟨kb, m, none⟩ = some (.int .i64 (m : Int)) := (B6.out.crow (K3.out.same (G4.out.2.1.block kb K3.out.lt)) kbN.out).cell hml.out
  have e6 : ((w4.alloc (.cells #[.int .i64 0, .int .i64 n] 69)).setCell ⟨N, 0, none⟩ (.int .i64 (-1))).cell? ⟨eb, m, none⟩ = some (.int .i64 (n : Int)) := (B6.out.irow (E3'.out.grew G4.out.2) ebN.out).cell hml.out
  have g6 := (B6.out.irow H4.out.giv gbN.out).cell hml.out
  have b6 := (B6.out.blk H4.out.blk pbN.out).cell 2 rfl
  have M6 := hide (HM3.out.same ((B6.out.block B (by have := HM3.out.lt; have := G4.out.2.size; omega) BN.out).trans (G4.out.2.1.block B HM3.out.lt)))
  have KI := hide (initiates_no (g m) ((w4.alloc (.cells #[.int .i64 0, .int .i64 n] 69)).setCell ⟨N, 0, none⟩ (.int .i64 (-1))) (Or.inl sg))
  have FIN : Hid (Grew w ((w4.alloc (.cells #[.int .i64 0, .int .i64 n] 69)).setCell ⟨N, 0, none⟩ (.int .i64 (-1)))) := (G4.out.1.alloc _).setCell hNw.out _
  have wfn : (Lit.int .i64 (n : Int)).wf = true := by
    have q : (decide (IntKind.min .i64 ≤ (n : Int)) && decide ((n : Int) ≤ IntKind.max .i64)) = true := by
      rw [Bool.and_eq_true]
      exact ⟨decide_eq_true (by show (-9223372036854775808 : Int) ≤ (n : Int); omega), decide_eq_true (by show (n : Int) ≤ (9223372036854775807 : Int); omega)⟩
    exact q
  clear c4 R4 R3 H3 H4 HA G4 G3' E3' K3 HM3 I4 B6 sg HS hlt3
  refine wp_loop_rounds 2 ?_
  rw [rounds_succ]
  go_wp2_with (at_lookup; refine wpList_map_look _ rfl _ _ rfl B n rfl M6.out rfl hnn wfn ?_)
  rw [rounds_succ]
  go_wp2
  go_ret
  exact ⟨N, rfl, FIN.out, hNw.out, I6.out⟩
end Go.Proofs.Ytdkmjhbkjhikfaa
