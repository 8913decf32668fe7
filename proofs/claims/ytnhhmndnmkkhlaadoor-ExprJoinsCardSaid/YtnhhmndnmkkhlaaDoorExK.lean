/- operate at two values that are no lists and no texts. -/
import Derived.Test.YtnhhmndnmkkhlaaDoorExJ
namespace Go.Proofs.YtnhhmndnmkkhlaaDoor
open Go.RowKit Go.Sort
set_option linter.unusedVariables false
set_option linter.unusedSimpArgs false

theorem info_flat : (Tryd.prog.info? 65).map (fun i => (i.zero, i.size, i.bytes)) = some (some (.agg #[.int .i64 0, .int .i64 0]), 2, 16) := by kernel_rfl
theorem info_value : (Tryd.prog.info? 24).map (fun i => (i.zero, i.size, i.bytes)) = some (some (nv 0 0), 4, 56) := by kernel_rfl
theorem make_flat2 (w : World) : (Instr.makeSlice 88 (.int .i64 2) (.int .i64 2)).run Tryd.prog w = .ok (.slice (some ⟨w.heap.size, 0, none⟩) 2 2) (w.alloc (.cells [.int .i64 0, .int .i64 0, .int .i64 0, .int .i64 0].toArray 65)) := by
  obtain ⟨i, hi, hz0, hz1, hz2⟩ := info_parts info_flat
  have hr := run_make (P := Tryd.prog) w 88 65 i _ Tryd.underlying88 hi hz0 .i64 .i64 2 2 (by omega) (by omega) (by rw [hz2]; omega) (by omega)
  rw [hr, hz1]
  have e : madeCells (Value.agg #[.int .i64 0, .int .i64 0]).cells (2 * 2) = [.int .i64 0, .int .i64 0, .int .i64 0, .int .i64 0].toArray := by kernel_rfl
  show Result.ok _ (w.alloc (.cells (madeCells (Value.agg #[.int .i64 0, .int .i64 0]).cells (2 * 2)) 65)) = _
  rw [e]
  rfl
theorem make_flat0 (w : World) : (Instr.makeSlice 88 (.int .i64 0) (.int .i64 0)).run Tryd.prog w = .ok (.slice (some ⟨w.heap.size, 0, none⟩) 0 0) (w.alloc (.cells [].toArray 65)) := by
  obtain ⟨i, hi, hz0, hz1, hz2⟩ := info_parts info_flat
  have hr := run_make (P := Tryd.prog) w 88 65 i _ Tryd.underlying88 hi hz0 .i64 .i64 0 0 (by omega) (by omega) (by rw [hz2]; omega) (by omega)
  rw [hr, hz1]
  have e : madeCells (Value.agg #[.int .i64 0, .int .i64 0]).cells (0 * 2) = [].toArray := by kernel_rfl
  show Result.ok _ (w.alloc (.cells (madeCells (Value.agg #[.int .i64 0, .int .i64 0]).cells (0 * 2)) 65)) = _
  rw [e]
  rfl
theorem make_value2 (w : World) : (Instr.makeSlice 22 (.int .i64 2) (.int .i64 2)).run Tryd.prog w = .ok (.slice (some ⟨w.heap.size, 0, none⟩) 2 2) (w.alloc (.cells [.int .i64 0, .int .i64 0, .string ⟨#[]⟩, .slice none 0 0, .int .i64 0, .int .i64 0, .string ⟨#[]⟩, .slice none 0 0].toArray 24)) := by
  obtain ⟨i, hi, hz0, hz1, hz2⟩ := info_parts info_value
  have hr := run_make (P := Tryd.prog) w 22 24 i _ Tryd.underlying22 hi hz0 .i64 .i64 2 2 (by omega) (by omega) (by rw [hz2]; omega) (by omega)
  rw [hr, hz1]
  have e : madeCells (nv 0 0).cells (2 * 4) = [.int .i64 0, .int .i64 0, .string ⟨#[]⟩, .slice none 0 0, .int .i64 0, .int .i64 0, .string ⟨#[]⟩, .slice none 0 0].toArray := by kernel_rfl
  show Result.ok _ (w.alloc (.cells (madeCells (nv 0 0).cells (2 * 4)) 24)) = _
  rw [e]
  rfl

/-- What operate returns for two values: error, kind, number. -/
def opR (op k0 n0 k1 n1 : Int) : Int × Int × Int :=
  if k0 = 1 ∧ k1 = 1 then (if (calR op n0 n1).2 = 0 then (if nuB (calR op n0 n1).1 = true then (0, 1, (calR op n0 n1).1) else (1, 0, 0)) else ((calR op n0 n1).2, 0, 0)) else (5, 0, 0)
/-- An int in range, or a bool. -/
def Vf (k n : Int) : Prop := (k = 1 ∧ nuB n = true) ∨ (k = 2 ∧ n = 0) ∨ (k = 2 ∧ n = 1)
theorem Vf.lf {k n : Int} (h : Vf k n) : Lf k n := by
  rcases h with h | h | h
  · exact .inl h
  · exact .inr (.inr (.inl h))
  · exact .inr (.inr (.inr h))
theorem Vf.ck {k n : Int} (h : Vf k n) : ckE k n = 0 ∧ ckT k n = k := by
  rcases h with ⟨rfl, h⟩ | ⟨rfl, h⟩ | ⟨rfl, h⟩ <;> simp [ckE, ckT, h]
theorem nu_sm {n : Int} (h : nuB n = true) : Sm n := by unfold nuB at h; unfold Sm; simpa using h
theorem Vf.sm {n : Int} (h : Vf 1 n) : Sm n := by
  rcases h with ⟨_, h⟩ | ⟨h, _⟩ | ⟨h, _⟩
  · exact nu_sm h
  · omega
  · omega
def tyL (k0 k1 : Int) : Nat → List Value
  | 0 => [.int .i64 0, .int .i64 0, .int .i64 0, .int .i64 0]
  | 1 => [.int .i64 0, .int .i64 k0, .int .i64 0, .int .i64 0]
  | _ => [.int .i64 0, .int .i64 k0, .int .i64 0, .int .i64 k1]

set_option maxRecDepth 20000 in
set_option maxHeartbeats 4000000 in
theorem operate_five (op k0 n0 k1 n1 : Int) (p : Option Addr) (c : Nat) (w : World) (hop : Op5 op) (v0 : Vf k0 n0) (v1 : Vf k1 n1) (h : Two w p k0 n0 k1 n1) :
    Calls Tryd.prog 60 #[.int .i64 op, .slice p 2 c] w fun e w' => e = .returned (.tuple #[nv (opR op k0 n0 k1 n1).2.1 (opR op k0 n0 k1 n1).2.2, .int .i64 (opR op k0 n0 k1 n1).1]) ∧ Grew w w' := by
  have T0 := fun W => hide (typeOf_lf k0 n0 W v0.lf)
  have T1 := fun W => hide (typeOf_lf k1 n1 W v1.lf)
  simp only [v0.ck.1, v0.ck.2] at T0
  simp only [v1.ck.1, v1.ck.2] at T1
  have H := hide h
  have HV := hide (And.intro v0 v1)
  clear h v0 v1
  have HO := hide hop
  clear hop
  go_enter Tryd.func60, Tryd.ntmps60
  have hmk := make_flat2 (w.alloc (.cells #[.int .i64 0, .int .i64 0, .string ⟨#[]⟩, .slice none 0 0] 24))
  go_wp2
  clear hmk
  refine name_world fun w1 h1 => ?_
  have b0 : Blk w1 w.heap.size 24 [.int .i64 0, .int .i64 0, .string ⟨#[]⟩, .slice none 0 0] := by
    rw [h1]; repeat' (first | (with_reducible assumption) | ((with_reducible refine Blk.new ?_); (first | (with_reducible rfl) | (simp only [World.size_alloc, World.size_setCell, size_drewN]; done))) | (with_reducible refine Blk.alloc ?_ _) | (refine Blk.other ?_ (by omega) _) | fail)
  have b1 : Blk w1 (w.heap.size + 1) 65 (tyL k0 k1 0) := by
    show Blk w1 (w.heap.size + 1) 65 [.int .i64 0, .int .i64 0, .int .i64 0, .int .i64 0]
    rw [h1]; repeat' (first | (with_reducible assumption) | ((with_reducible refine Blk.new ?_); (first | (with_reducible rfl) | (simp only [World.size_alloc, World.size_setCell, size_drewN]; done))) | (with_reducible refine Blk.alloc ?_ _) | (refine Blk.other ?_ (by omega) _) | fail)
  have G1 : Hid (Grew w w1) := by rw [h1]; exact ((Grew.refl _).alloc _).alloc _
  clear h1
  go_loopg [16] 3 (fun gh vk wr => ∃ (i : Nat), vk = .int .i64 (i : Int) ∧ i ≤ 2 ∧ 2 - i < gh ∧ Hid (Grew w wr) ∧ Hid (Blk wr w.heap.size 24 [.int .i64 0, .int .i64 0, .string ⟨#[]⟩, .slice none 0 0]) ∧ Hid (Blk wr (w.heap.size + 1) 65 (tyL k0 k1 i)))
  case atStart => exact ⟨0, by go_num, by omega, by omega, G1, b0, b1⟩
  case round =>
    clear b0 b1 G1
    obtain ⟨wo, rfl⟩ : ∃ wo : World, wo = wr := ⟨_, rfl⟩
    obtain ⟨i, rfl, hi, hgh, G, V, T⟩ := hrel
    have HW := H.out.grew G.out
    by_cases h2 : i = 2
    · subst h2
      have T' : TwoT wo (w.heap.size + 1) k0 k1 := T.out
      have F := fun W hW => hide (fits_two op k0 k1 (w.heap.size + 1) 2 W (.inl HO.out) hW)
      have V' := V.out
      clear T0 T1 T V
      go_wp2_with fail
      refine ((F _ T').out).mono ?_
      rintro e w3 ⟨rfl, G3⟩
      have HW3 := HW.grew G3
      have V3 := V'.grew G3
      have G3' := hide (G.out.trans G3)
      clear F T' V' G3 HW G
      by_cases hk : k0 = 1 ∧ k1 = 1
      · obtain ⟨rfl, rfl⟩ := hk
        have KA := fun W hW => hide (apply_five op n0 n1 p c W HO.out HV.out.1.sm HV.out.2.sm hW)
        have hR : Hid (opR op 1 n0 1 n1 = if (calR op n0 n1).2 = 0 then (if nuB (calR op n0 n1).1 = true then (0, 1, (calR op n0 n1).1) else (1, 0, 0)) else ((calR op n0 n1).2, 0, 0)) := by unfold Hid; simp [opR]
        generalize hr1 : (calR op n0 n1).1 = r1 at *
        generalize hr2 : (calR op n0 n1).2 = r2 at *
        clear hr1 hr2
        go_wp2_with fail
        refine ((KA _ HW3).out).mono ?_
        rintro e w4 ⟨rfl, G4⟩
        have V4 := V3.grew G4
        have G5 := G3'.out.trans G4
        clear KA V3 G3' G4 HW3 HV
        by_cases hr : r2 = 0
        · subst hr
          have hR2 := hide hR.out
          rw [if_pos rfl] at hR2
          clear hR
          by_cases hn : nuB r1 = true
          · have KC := fun W => hide (Check_lf 1 r1 W (.inl ⟨rfl, hn⟩))
            simp only [show ckE 1 r1 = 0 by simp [ckE, hn]] at KC
            have hR3 := hide hR2.out
            rw [if_pos hn] at hR3
            clear hR2 hn
            go_wp2_with fail
            refine name_calls fun w5 h5 => ?_
            have G6 : Grew w w5 := by rw [h5]; exact G5.alloc _
            have V5 : Blk w5 w.heap.size 24 [.int .i64 0, .int .i64 0, .string ⟨#[]⟩, .slice none 0 0] := by rw [h5]; exact V4.alloc _
            have Y5 : Blk w5 w4.heap.size 24 [.int .i64 1, .int .i64 r1, .string ⟨#[]⟩, .slice none 0 0] := by rw [h5]; exact Blk.new rfl
            clear h5
            refine ((KC _).out).mono ?_
            rintro e w6 ⟨rfl, G7⟩
            have V6 := V5.grew G7
            have Y6 := Y5.grew G7
            have G8 := G6.trans G7
            clear V5 Y5 G6 G7 KC V4 G5
            have d0 := V6.cell 0 rfl
            have d1 := V6.cell 1 rfl
            have d2 := V6.cell 2 rfl
            have d3 := V6.cell 3 rfl
            have f0 := V6.free 0
            have f1 := V6.free 1
            have f2 := V6.free 2
            have f3 := V6.free 3
            have y0 := Y6.cell 0 rfl
            have y1 := Y6.cell 1 rfl
            have y2 := Y6.cell 2 rfl
            have y3 := Y6.cell 3 rfl
            have hlt6 := V6.lt
            have hlt7 := Y6.lt
            go_wp2
            refine name_bp fun wq hq => ?_
            have Gq : Grew w wq := by
              rw [hq]
              repeat' (first | (with_reducible exact G8) | (with_reducible refine Grew.setCell ?_ ?_ _) | (dsimp only; omega))
            have Bq : Blk wq w.heap.size 24 [.int .i64 1, .int .i64 r1, .string ⟨#[]⟩, .slice none 0 0] := by
              rw [hq]; exact (((V6.set' 0 _ rfl).set' 1 _ rfl).set' 2 _ rfl).set' 3 _ rfl
            have q0 := Bq.cell 0 rfl
            have q1 := Bq.cell 1 rfl
            have q2 := Bq.cell 2 rfl
            have q3 := Bq.cell 3 rfl
            refine bodyPost_ret (v := .tuple #[nv 1 r1, .int .i64 0]) (by simp [results, Tryd.results60, go_sem, q0, q1, q2, q3]) rfl ⟨by rw [hR3.out], Gq⟩
          · have hn' : nuB r1 = false := by simpa using hn
            have KC := fun W => hide (Check_lf 1 r1 W (.inr (.inl ⟨rfl, hn'⟩)))
            simp only [show ckE 1 r1 = 1 by simp [ckE, hn']] at KC
            have hR3 := hide hR2.out
            rw [if_neg hn] at hR3
            clear hR2 hn hn'
            go_wp2_with fail
            refine name_calls fun w5 h5 => ?_
            have G6 : Grew w w5 := by rw [h5]; exact G5.alloc _
            have V5 : Blk w5 w.heap.size 24 [.int .i64 0, .int .i64 0, .string ⟨#[]⟩, .slice none 0 0] := by rw [h5]; exact V4.alloc _
            have Y5 : Blk w5 w4.heap.size 24 [.int .i64 1, .int .i64 r1, .string ⟨#[]⟩, .slice none 0 0] := by rw [h5]; exact Blk.new rfl
            clear h5
            refine ((KC _).out).mono ?_
            rintro e w6 ⟨rfl, G7⟩
            have V6 := V5.grew G7
            have Y6 := Y5.grew G7
            have G8 := G6.trans G7
            clear V5 Y5 G6 G7 KC V4 G5
            have d0 := V6.cell 0 rfl
            have d1 := V6.cell 1 rfl
            have d2 := V6.cell 2 rfl
            have d3 := V6.cell 3 rfl
            have f0 := V6.free 0
            have f1 := V6.free 1
            have f2 := V6.free 2
            have f3 := V6.free 3
            have y0 := Y6.cell 0 rfl
            have y1 := Y6.cell 1 rfl
            have y2 := Y6.cell 2 rfl
            have y3 := Y6.cell 3 rfl
            have hlt6 := V6.lt
            have hlt7 := Y6.lt
            go_wp2
            refine name_bp fun wq hq => ?_
            have Gq : Grew w wq := by
              rw [hq]
              repeat' (first | (with_reducible exact G8) | (with_reducible refine Grew.setCell ?_ ?_ _) | (dsimp only; omega))
            have Bq : Blk wq w.heap.size 24 [.int .i64 0, .int .i64 0, .string ⟨#[]⟩, .slice none 0 0] := by
              rw [hq]; exact (((V6.set' 0 _ rfl).set' 1 _ rfl).set' 2 _ rfl).set' 3 _ rfl
            have q0 := Bq.cell 0 rfl
            have q1 := Bq.cell 1 rfl
            have q2 := Bq.cell 2 rfl
            have q3 := Bq.cell 3 rfl
            refine bodyPost_ret (v := .tuple #[nv 0 0, .int .i64 1]) (by simp [results, Tryd.results60, go_sem, q0, q1, q2, q3]) rfl ⟨by rw [hR3.out], Gq⟩
        · have hr0 : (r2 == 0) = false := by simpa using hr
          have hr1 : (r2 != 0) = true := by simpa using hr
          have hR3 := hide hR.out
          rw [if_neg hr] at hR3
          clear hR
          have d0 := V4.cell 0 rfl
          have d1 := V4.cell 1 rfl
          have d2 := V4.cell 2 rfl
          have d3 := V4.cell 3 rfl
          have f0 := V4.free 0
          have f1 := V4.free 1
          have f2 := V4.free 2
          have f3 := V4.free 3
          have hlt4 := V4.lt
          go_wp2
          refine name_bp fun wq hq => ?_
          have Gq : Grew w wq := by
            rw [hq]
            repeat' (first | (with_reducible exact G5) | (with_reducible refine Grew.setCell ?_ ?_ _) | (with_reducible refine Grew.alloc ?_ _) | (dsimp only; omega))
          have Bq : Blk wq w.heap.size 24 [.int .i64 0, .int .i64 0, .string ⟨#[]⟩, .slice none 0 0] := by
            rw [hq]
            refine Blk.alloc ?_ _
            exact ((((V4.set' 0 _ rfl).set' 1 _ rfl).set' 2 _ rfl).set' 3 _ rfl)
          have q0 := Bq.cell 0 rfl
          have q1 := Bq.cell 1 rfl
          have q2 := Bq.cell 2 rfl
          have q3 := Bq.cell 3 rfl
          refine bodyPost_ret (v := .tuple #[nv 0 0, .int .i64 r2]) (by simp [results, Tryd.results60, go_sem, q0, q1, q2, q3]) rfl ⟨by rw [hR3.out], Gq⟩
      · have e1 : (k0 == 1 && k1 == 1) = false := by
          simp only [Bool.and_eq_false_iff, beq_eq_false_iff_ne]
          by_cases h : k0 = 1
          · exact .inr fun e => hk ⟨h, e⟩
          · exact .inl h
        have hR3 : Hid (opR op k0 n0 k1 n1 = (5, 0, 0)) := by unfold Hid; simp [opR, hk]
        rw [e1]
        clear hk e1
        have d0 := V3.cell 0 rfl
        have d1 := V3.cell 1 rfl
        have d2 := V3.cell 2 rfl
        have d3 := V3.cell 3 rfl
        have f0 := V3.free 0
        have f1 := V3.free 1
        have f2 := V3.free 2
        have f3 := V3.free 3
        have hlt3 := V3.lt
        go_wp2
        refine name_bp fun wq hq => ?_
        have Gq : Grew w wq := by
          rw [hq]
          repeat' (first | (with_reducible exact G3'.out) | (with_reducible refine Grew.setCell ?_ ?_ _) | (dsimp only; omega))
        have Bq : Blk wq w.heap.size 24 [.int .i64 0, .int .i64 0, .string ⟨#[]⟩, .slice none 0 0] := by
          rw [hq]; exact (((V3.set' 0 _ rfl).set' 1 _ rfl).set' 2 _ rfl).set' 3 _ rfl
        have q0 := Bq.cell 0 rfl
        have q1 := Bq.cell 1 rfl
        have q2 := Bq.cell 2 rfl
        have q3 := Bq.cell 3 rfl
        refine bodyPost_ret (v := .tuple #[nv 0 0, .int .i64 5]) (by simp [results, Tryd.results60, go_sem, q0, q1, q2, q3]) rfl ⟨by rw [hR3.out], Gq⟩
    · by_cases h0 : i = 0
      · subst h0
        obtain ⟨bb, off, rfl, hbl, ⟨x0, x1, x2, x3⟩, y0, y1, y2, y3⟩ := HW
        have T' := T.out
        have V' := V.out
        clear H T V y0 y1 y2 y3
        go_wp2_with fail
        refine name_calls fun w4 h4 => ?_
        have G4 : Grew w w4 := by rw [h4]; exact G.out.alloc _
        have T4 : Blk w4 (w.heap.size + 1) 65 (tyL k0 k1 0) := by rw [h4]; exact T'.alloc _
        have V4 := hide (show Blk w4 w.heap.size 24 [.int .i64 0, .int .i64 0, .string ⟨#[]⟩, .slice none 0 0] by rw [h4]; exact V'.alloc _)
        clear h4 G V' T'
        refine ((T0 _).out).mono ?_
        rintro e w5 ⟨rfl, G5⟩
        have G6 := G4.trans G5
        have T6 := T4.grew G5
        have V6 := hide (V4.out.grew G5)
        clear T4 V4 G5 G4 T0 T1
        have d0 := T6.cell 0 rfl
        have d1 := T6.cell 1 rfl
        have f0 := T6.free 0
        have f1 := T6.free 1
        have hlt6 := T6.lt
        have sz6 := G6.size
        go_wp2
        go_roundg 2
        case measure => omega
        case rel =>
          refine ⟨1, by go_num, by omega, by omega, hide ((G6.setCell (by dsimp only; omega) _).setCell (by dsimp only; omega) _), hide ((V6.out.other (by omega) _).other (by omega) _), hide (?_)⟩
          exact (T6.set' 0 _ rfl).set' 1 _ rfl
      · obtain rfl : i = 1 := by omega
        obtain ⟨bb, off, rfl, hbl, ⟨x0, x1, x2, x3⟩, y0, y1, y2, y3⟩ := HW
        have T' := T.out
        have V' := V.out
        clear H T V x0 x1 x2 x3
        go_wp2_with fail
        refine name_calls fun w4 h4 => ?_
        have G4 : Grew w w4 := by rw [h4]; exact G.out.alloc _
        have T4 : Blk w4 (w.heap.size + 1) 65 (tyL k0 k1 1) := by rw [h4]; exact T'.alloc _
        have V4 := hide (show Blk w4 w.heap.size 24 [.int .i64 0, .int .i64 0, .string ⟨#[]⟩, .slice none 0 0] by rw [h4]; exact V'.alloc _)
        clear h4 G V' T'
        refine ((T1 _).out).mono ?_
        rintro e w5 ⟨rfl, G5⟩
        have G6 := G4.trans G5
        have T6 := T4.grew G5
        have V6 := hide (V4.out.grew G5)
        clear T4 V4 G5 G4 T0 T1
        have d0 := T6.cell 2 rfl
        have d1 := T6.cell 3 rfl
        have f0 := T6.free 2
        have f1 := T6.free 3
        have hlt6 := T6.lt
        have sz6 := G6.size
        go_wp2
        go_roundg 1
        case measure => omega
        case rel =>
          refine ⟨2, by go_num, by omega, by omega, hide ((G6.setCell (by dsimp only; omega) _).setCell (by dsimp only; omega) _), hide ((V6.out.other (by omega) _).other (by omega) _), hide (?_)⟩
          exact (T6.set' 2 _ rfl).set' 3 _ rfl
end Go.Proofs.YtnhhmndnmkkhlaaDoor
