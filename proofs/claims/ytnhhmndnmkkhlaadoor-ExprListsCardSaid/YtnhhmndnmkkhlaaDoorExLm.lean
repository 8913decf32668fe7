/- operate at two values, whatever they are. -/
import Derived.Test.YtnhhmndnmkkhlaaDoorExLl
namespace Go.Proofs.YtnhhmndnmkkhlaaDoor
open Go.RowKit Go.Sort
set_option linter.unusedVariables false
set_option linter.unusedSimpArgs false

def TwoG (w : World) (p : Option Addr) (ka na : Int) (pa : Option Addr) (ma ca : Nat) (kb nb : Int) (pb : Option Addr) (mb cb : Nat) : Prop := ∃ b off, p = some ⟨b, off, none⟩ ∧ b < w.heap.size ∧
  (w.cell? ⟨b, off, none⟩ = some (.int .i64 ka) ∧ w.cell? ⟨b, off + 1, none⟩ = some (.int .i64 na) ∧ w.cell? ⟨b, off + 2, none⟩ = some (.string ⟨#[]⟩) ∧ w.cell? ⟨b, off + 3, none⟩ = some (.slice pa ma ca)) ∧
  (w.cell? ⟨b, off + 4, none⟩ = some (.int .i64 kb) ∧ w.cell? ⟨b, off + 4 + 1, none⟩ = some (.int .i64 nb) ∧ w.cell? ⟨b, off + 4 + 2, none⟩ = some (.string ⟨#[]⟩) ∧ w.cell? ⟨b, off + 4 + 3, none⟩ = some (.slice pb mb cb))
theorem TwoG.grew {w w' : World} {p pa pb : Option Addr} {ka na kb nb : Int} {ma ca mb cb : Nat} (h : TwoG w p ka na pa ma ca kb nb pb mb cb) (g : Grew w w') : TwoG w' p ka na pa ma ca kb nb pb mb cb := by
  obtain ⟨b, off, hp, hb, ⟨h0, h1, h2, h3⟩, h4, h5, h6, h7⟩ := h
  have c := fun o => g.cell b o hb
  exact ⟨b, off, hp, Nat.lt_of_lt_of_le hb g.size, ⟨(c _).trans h0, (c _).trans h1, (c _).trans h2, (c _).trans h3⟩, (c _).trans h4, (c _).trans h5, (c _).trans h6, (c _).trans h7⟩
def tyG (l0 k0 l1 k1 : Int) : Nat → List Value
  | 0 => [.int .i64 0, .int .i64 0, .int .i64 0, .int .i64 0]
  | 1 => [.int .i64 l0, .int .i64 k0, .int .i64 0, .int .i64 0]
  | _ => [.int .i64 l0, .int .i64 k0, .int .i64 l1, .int .i64 k1]

set_option maxRecDepth 20000 in
set_option maxHeartbeats 4000000 in
theorem operate_ok (op ka na kb nb l0 k0 l1 k1 kr nr : Int) (p pa pb : Option Addr) (c ma ca mb cb : Nat) (Gd : Option Addr → Nat → Nat → World → Prop) (w : World) (h : TwoG w p ka na pa ma ca kb nb pb mb cb)
    (T0 : ∀ W, Grew w W → Hid (Calls Tryd.prog 33 #[.agg #[.int .i64 ka, .int .i64 na, .string ⟨#[]⟩, .slice pa ma ca]] W fun e w' => e = .returned (.tuple #[flV l0 k0, .int .i64 0]) ∧ Grew W w'))
    (T1 : ∀ W, Grew w W → Hid (Calls Tryd.prog 33 #[.agg #[.int .i64 kb, .int .i64 nb, .string ⟨#[]⟩, .slice pb mb cb]] W fun e w' => e = .returned (.tuple #[flV l1 k1, .int .i64 0]) ∧ Grew W w'))
    (KF : ∀ W b, Blk W b 65 [.int .i64 l0, .int .i64 k0, .int .i64 l1, .int .i64 k1] → Hid (Calls Tryd.prog 65 #[.int .i64 op, .slice (some ⟨b, 0, none⟩) 2 2] W fun e w' => e = .returned (.bool true) ∧ Grew W w'))
    (KA : ∀ W, Grew w W → w.heap.size < W.heap.size → Hid (Calls Tryd.prog 70 #[.int .i64 op, .slice p 2 c] W fun e w' => ∃ pr mr cr, e = .returned (.tuple #[.agg #[.int .i64 kr, .int .i64 nr, .string ⟨#[]⟩, .slice pr mr cr], .int .i64 0]) ∧ Gd pr mr cr w' ∧ Grew W w'))
    (KC : ∀ W pr mr cr, Gd pr mr cr W → Hid (Calls Tryd.prog 11 #[.agg #[.int .i64 kr, .int .i64 nr, .string ⟨#[]⟩, .slice pr mr cr]] W fun e w' => e = .returned (.int .i64 0) ∧ Grew W w'))
    (hGg : ∀ a b c w w', Gd a b c w → Grew w w' → Gd a b c w') (hGs : ∀ a b c W o x, Gd a b c W → Gd a b c (W.setCell ⟨w.heap.size, o, none⟩ x)) :
    Calls Tryd.prog 60 #[.int .i64 op, .slice p 2 c] w fun e w' => ∃ pr mr cr, e = .returned (.tuple #[.agg #[.int .i64 kr, .int .i64 nr, .string ⟨#[]⟩, .slice pr mr cr], .int .i64 0]) ∧ Gd pr mr cr w' ∧ Grew w w' := by
  have H := hide h
  clear h
  go_enter Tryd.func60, Tryd.ntmps60
  have hmk := make_flat2 (w.alloc (.cells #[.int .i64 0, .int .i64 0, .string ⟨#[]⟩, .slice none 0 0] 24))
  go_wp2
  clear hmk
  refine name_world fun w1 h1 => ?_
  have b0 : Blk w1 w.heap.size 24 [.int .i64 0, .int .i64 0, .string ⟨#[]⟩, .slice none 0 0] := by
    rw [h1]; repeat' (first | (with_reducible assumption) | ((with_reducible refine Blk.new ?_); (first | (with_reducible rfl) | (simp only [World.size_alloc, World.size_setCell, size_drewN]; done))) | (with_reducible refine Blk.alloc ?_ _) | (refine Blk.other ?_ (by omega) _) | fail)
  have b1 : Blk w1 (w.heap.size + 1) 65 (tyG l0 k0 l1 k1 0) := by
    show Blk w1 (w.heap.size + 1) 65 [.int .i64 0, .int .i64 0, .int .i64 0, .int .i64 0]
    rw [h1]; repeat' (first | (with_reducible assumption) | ((with_reducible refine Blk.new ?_); (first | (with_reducible rfl) | (simp only [World.size_alloc, World.size_setCell, size_drewN]; done))) | (with_reducible refine Blk.alloc ?_ _) | (refine Blk.other ?_ (by omega) _) | fail)
  have G1 : Hid (Grew w w1) := by rw [h1]; exact ((Grew.refl _).alloc _).alloc _
  clear h1
  go_loopg [16] 3 (fun gh vk wr => ∃ (i : Nat), vk = .int .i64 (i : Int) ∧ i ≤ 2 ∧ 2 - i < gh ∧ Hid (Grew w wr) ∧ Hid (Blk wr w.heap.size 24 [.int .i64 0, .int .i64 0, .string ⟨#[]⟩, .slice none 0 0]) ∧ Hid (Blk wr (w.heap.size + 1) 65 (tyG l0 k0 l1 k1 i)))
  case atStart => exact ⟨0, by go_num, by omega, by omega, G1, b0, b1⟩
  case round =>
    clear b0 b1 G1
    obtain ⟨wo, rfl⟩ : ∃ wo : World, wo = wr := ⟨_, rfl⟩
    obtain ⟨i, rfl, hi, hgh, G, V, T⟩ := hrel
    have HW := H.out.grew G.out
    by_cases h2 : i = 2
    · subst h2
      have T' : Blk wo (w.heap.size + 1) 65 [.int .i64 l0, .int .i64 k0, .int .i64 l1, .int .i64 k1] := T.out
      have V' := V.out
      clear T0 T1 T V
      go_wp2_with fail
      refine ((KF _ _ T').out).mono ?_
      rintro e w3 ⟨rfl, G3⟩
      have V3 := V'.grew G3
      have G3' := hide (G.out.trans G3)
      have z3 : w.heap.size < w3.heap.size := V3.lt
      clear KF T' V' G3 HW G
      go_wp2_with fail
      refine ((KA _ G3'.out z3).out).mono ?_
      rintro e w4 ⟨pr, mr, cr, rfl, D4, G4⟩
      have V4 := V3.grew G4
      have G5 := G3'.out.trans G4
      clear KA V3 G3' G4
      go_wp2_with fail
      refine name_calls fun w5 h5 => ?_
      have G6 : Grew w w5 := by rw [h5]; exact G5.alloc _
      have D5 : Gd pr mr cr w5 := by rw [h5]; exact hGg _ _ _ _ _ D4 ((Grew.refl _).alloc _)
      have V5 : Blk w5 w.heap.size 24 [.int .i64 0, .int .i64 0, .string ⟨#[]⟩, .slice none 0 0] := by rw [h5]; exact V4.alloc _
      have Y5 : Blk w5 w4.heap.size 24 [.int .i64 kr, .int .i64 nr, .string ⟨#[]⟩, .slice pr mr cr] := by rw [h5]; exact Blk.new rfl
      clear h5
      refine ((KC _ _ _ _ D5).out).mono ?_
      rintro e w6 ⟨rfl, G7⟩
      have V6 := V5.grew G7
      have Y6 := Y5.grew G7
      have D6 := hGg _ _ _ _ _ D5 G7
      have G8 := G6.trans G7
      clear V5 Y5 G6 G7 KC V4 G5 D4 D5
      have d0 := V6.cell 0 rfl
      have d1 := V6.cell 1 rfl
      have d2 := V6.cell 2 rfl
      have d3 := V6.cell 3 rfl
      have f0 := V6.free 0
      have f1 := V6.free 1
      have f2 := V6.free 2
      have f3 := V6.free 3
      have y0 := Y6.cell 0 rfl
      have y1 := Y6.cell 1 rfl
      have y2 := Y6.cell 2 rfl
      have y3 := Y6.cell 3 rfl
      have hlt6 := V6.lt
      have hlt7 := Y6.lt
      go_wp2
      refine name_bp fun wq hq => ?_
      have Gq : Grew w wq := by
        rw [hq]
        repeat' (first | (with_reducible exact G8) | (with_reducible refine Grew.setCell ?_ ?_ _) | (dsimp only; omega))
      have Bq : Blk wq w.heap.size 24 [.int .i64 kr, .int .i64 nr, .string ⟨#[]⟩, .slice pr mr cr] := by
        rw [hq]; exact (((V6.set' 0 _ rfl).set' 1 _ rfl).set' 2 _ rfl).set' 3 _ rfl
      have Dq : Gd pr mr cr wq := by
        rw [hq]; exact hGs _ _ _ _ _ _ (hGs _ _ _ _ _ _ (hGs _ _ _ _ _ _ (hGs _ _ _ _ _ _ D6)))
      have q0 := Bq.cell 0 rfl
      have q1 := Bq.cell 1 rfl
      have q2 := Bq.cell 2 rfl
      have q3 := Bq.cell 3 rfl
      exact bodyPost_ret (v := .tuple #[.agg #[.int .i64 kr, .int .i64 nr, .string ⟨#[]⟩, .slice pr mr cr], .int .i64 0]) (by simp [results, Tryd.results60, go_sem, q0, q1, q2, q3]) rfl ⟨pr, mr, cr, rfl, Dq, Gq⟩
    · by_cases h0 : i = 0
      · subst h0
        obtain ⟨bb, off, rfl, hbl, ⟨x0, x1, x2, x3⟩, y0, y1, y2, y3⟩ := HW
        have T' := T.out
        have V' := V.out
        clear H T V y0 y1 y2 y3 KF KA
        go_wp2_with fail
        refine name_calls fun w4 h4 => ?_
        have G4 : Grew w w4 := by rw [h4]; exact G.out.alloc _
        have T4 : Blk w4 (w.heap.size + 1) 65 (tyG l0 k0 l1 k1 0) := by rw [h4]; exact T'.alloc _
        have V4 := hide (show Blk w4 w.heap.size 24 [.int .i64 0, .int .i64 0, .string ⟨#[]⟩, .slice none 0 0] by rw [h4]; exact V'.alloc _)
        clear h4 G V' T'
        refine ((T0 _ G4).out).mono ?_
        rintro e w5 ⟨rfl, G5⟩
        have G6 := G4.trans G5
        have T6 := T4.grew G5
        have V6 := hide (V4.out.grew G5)
        clear T4 V4 G5 G4 T0 T1
        have d0 := T6.cell 0 rfl
        have d1 := T6.cell 1 rfl
        have f0 := T6.free 0
        have f1 := T6.free 1
        have hlt6 := T6.lt
        have sz6 := G6.size
        go_wp2
        go_roundg 2
        case measure => omega
        case rel =>
          refine ⟨1, by go_num, by omega, by omega, hide ((G6.setCell (by dsimp only; omega) _).setCell (by dsimp only; omega) _), hide ((V6.out.other (by omega) _).other (by omega) _), hide (?_)⟩
          exact (T6.set' 0 _ rfl).set' 1 _ rfl
      · obtain rfl : i = 1 := by omega
        obtain ⟨bb, off, rfl, hbl, ⟨x0, x1, x2, x3⟩, y0, y1, y2, y3⟩ := HW
        have T' := T.out
        have V' := V.out
        clear H T V x0 x1 x2 x3 KF KA
        go_wp2_with fail
        refine name_calls fun w4 h4 => ?_
        have G4 : Grew w w4 := by rw [h4]; exact G.out.alloc _
        have T4 : Blk w4 (w.heap.size + 1) 65 (tyG l0 k0 l1 k1 1) := by rw [h4]; exact T'.alloc _
        have V4 := hide (show Blk w4 w.heap.size 24 [.int .i64 0, .int .i64 0, .string ⟨#[]⟩, .slice none 0 0] by rw [h4]; exact V'.alloc _)
        clear h4 G V' T'
        refine ((T1 _ G4).out).mono ?_
        rintro e w5 ⟨rfl, G5⟩
        have G6 := G4.trans G5
        have T6 := T4.grew G5
        have V6 := hide (V4.out.grew G5)
        clear T4 V4 G5 G4 T0 T1
        have d0 := T6.cell 2 rfl
        have d1 := T6.cell 3 rfl
        have f0 := T6.free 2
        have f1 := T6.free 3
        have hlt6 := T6.lt
        have sz6 := G6.size
        go_wp2
        go_roundg 1
        case measure => omega
        case rel =>
          refine ⟨2, by go_num, by omega, by omega, hide ((G6.setCell (by dsimp only; omega) _).setCell (by dsimp only; omega) _), hide ((V6.out.other (by omega) _).other (by omega) _), hide (?_)⟩
          exact (T6.set' 2 _ rfl).set' 3 _ rfl

set_option maxRecDepth 20000 in
set_option maxHeartbeats 4000000 in
theorem operate_err (op ka na kb nb l0 k0 l1 k1 kr nr er : Int) (p pa pb : Option Addr) (c ma ca mb cb : Nat) (Gd : Option Addr → Nat → Nat → World → Prop) (w : World) (h : TwoG w p ka na pa ma ca kb nb pb mb cb)
    (T0 : ∀ W, Grew w W → Hid (Calls Tryd.prog 33 #[.agg #[.int .i64 ka, .int .i64 na, .string ⟨#[]⟩, .slice pa ma ca]] W fun e w' => e = .returned (.tuple #[flV l0 k0, .int .i64 0]) ∧ Grew W w'))
    (T1 : ∀ W, Grew w W → Hid (Calls Tryd.prog 33 #[.agg #[.int .i64 kb, .int .i64 nb, .string ⟨#[]⟩, .slice pb mb cb]] W fun e w' => e = .returned (.tuple #[flV l1 k1, .int .i64 0]) ∧ Grew W w'))
    (KF : ∀ W b, Blk W b 65 [.int .i64 l0, .int .i64 k0, .int .i64 l1, .int .i64 k1] → Hid (Calls Tryd.prog 65 #[.int .i64 op, .slice (some ⟨b, 0, none⟩) 2 2] W fun e w' => e = .returned (.bool true) ∧ Grew W w'))
    (KA : ∀ W, Grew w W → w.heap.size < W.heap.size → Hid (Calls Tryd.prog 70 #[.int .i64 op, .slice p 2 c] W fun e w' => ∃ pr mr cr, e = .returned (.tuple #[.agg #[.int .i64 kr, .int .i64 nr, .string ⟨#[]⟩, .slice pr mr cr], .int .i64 er]) ∧ Gd pr mr cr w' ∧ Grew W w')) (her : ¬ er = 0) :
    Calls Tryd.prog 60 #[.int .i64 op, .slice p 2 c] w fun e w' => e = .returned (.tuple #[nv 0 0, .int .i64 er]) ∧ Grew w w' := by
  have H := hide h
  clear h
  go_enter Tryd.func60, Tryd.ntmps60
  have hmk := make_flat2 (w.alloc (.cells #[.int .i64 0, .int .i64 0, .string ⟨#[]⟩, .slice none 0 0] 24))
  go_wp2
  clear hmk
  refine name_world fun w1 h1 => ?_
  have b0 : Blk w1 w.heap.size 24 [.int .i64 0, .int .i64 0, .string ⟨#[]⟩, .slice none 0 0] := by
    rw [h1]; repeat' (first | (with_reducible assumption) | ((with_reducible refine Blk.new ?_); (first | (with_reducible rfl) | (simp only [World.size_alloc, World.size_setCell, size_drewN]; done))) | (with_reducible refine Blk.alloc ?_ _) | (refine Blk.other ?_ (by omega) _) | fail)
  have b1 : Blk w1 (w.heap.size + 1) 65 (tyG l0 k0 l1 k1 0) := by
    show Blk w1 (w.heap.size + 1) 65 [.int .i64 0, .int .i64 0, .int .i64 0, .int .i64 0]
    rw [h1]; repeat' (first | (with_reducible assumption) | ((with_reducible refine Blk.new ?_); (first | (with_reducible rfl) | (simp only [World.size_alloc, World.size_setCell, size_drewN]; done))) | (with_reducible refine Blk.alloc ?_ _) | (refine Blk.other ?_ (by omega) _) | fail)
  have G1 : Hid (Grew w w1) := by rw [h1]; exact ((Grew.refl _).alloc _).alloc _
  clear h1
  go_loopg [16] 3 (fun gh vk wr => ∃ (i : Nat), vk = .int .i64 (i : Int) ∧ i ≤ 2 ∧ 2 - i < gh ∧ Hid (Grew w wr) ∧ Hid (Blk wr w.heap.size 24 [.int .i64 0, .int .i64 0, .string ⟨#[]⟩, .slice none 0 0]) ∧ Hid (Blk wr (w.heap.size + 1) 65 (tyG l0 k0 l1 k1 i)))
  case atStart => exact ⟨0, by go_num, by omega, by omega, G1, b0, b1⟩
  case round =>
    clear b0 b1 G1
    obtain ⟨wo, rfl⟩ : ∃ wo : World, wo = wr := ⟨_, rfl⟩
    obtain ⟨i, rfl, hi, hgh, G, V, T⟩ := hrel
    have HW := H.out.grew G.out
    by_cases h2 : i = 2
    · subst h2
      have T' : Blk wo (w.heap.size + 1) 65 [.int .i64 l0, .int .i64 k0, .int .i64 l1, .int .i64 k1] := T.out
      have V' := V.out
      clear T0 T1 T V
      go_wp2_with fail
      refine ((KF _ _ T').out).mono ?_
      rintro e w3 ⟨rfl, G3⟩
      have V3 := V'.grew G3
      have G3' := hide (G.out.trans G3)
      have z3 : w.heap.size < w3.heap.size := V3.lt
      clear KF T' V' G3 HW G
      go_wp2_with fail
      refine ((KA _ G3'.out z3).out).mono ?_
      rintro e w4 ⟨pr, mr, cr, rfl, D4, G4⟩
      have V4 := V3.grew G4
      have G5 := G3'.out.trans G4
      clear KA V3 G3' G4
      have hr0 : (er == 0) = false := by simpa using her
      have hr1 : (er != 0) = true := by simpa using her
      have d0 := V4.cell 0 rfl
      have d1 := V4.cell 1 rfl
      have d2 := V4.cell 2 rfl
      have d3 := V4.cell 3 rfl
      have f0 := V4.free 0
      have f1 := V4.free 1
      have f2 := V4.free 2
      have f3 := V4.free 3
      have hlt4 := V4.lt
      go_wp2
      refine name_bp fun wq hq => ?_
      have Gq : Grew w wq := by
        rw [hq]
        repeat' (first | (with_reducible exact G5) | (with_reducible refine Grew.setCell ?_ ?_ _) | (with_reducible refine Grew.alloc ?_ _) | (dsimp only; omega))
      have Bq : Blk wq w.heap.size 24 [.int .i64 0, .int .i64 0, .string ⟨#[]⟩, .slice none 0 0] := by
        rw [hq]
        refine Blk.alloc ?_ _
        exact ((((V4.set' 0 _ rfl).set' 1 _ rfl).set' 2 _ rfl).set' 3 _ rfl)
      have q0 := Bq.cell 0 rfl
      have q1 := Bq.cell 1 rfl
      have q2 := Bq.cell 2 rfl
      have q3 := Bq.cell 3 rfl
      exact bodyPost_ret (v := .tuple #[nv 0 0, .int .i64 er]) (by simp [results, Tryd.results60, go_sem, q0, q1, q2, q3]) rfl ⟨rfl, Gq⟩
    · by_cases h0 : i = 0
      · subst h0
        obtain ⟨bb, off, rfl, hbl, ⟨x0, x1, x2, x3⟩, y0, y1, y2, y3⟩ := HW
        have T' := T.out
        have V' := V.out
        clear H T V y0 y1 y2 y3 KF KA
        go_wp2_with fail
        refine name_calls fun w4 h4 => ?_
        have G4 : Grew w w4 := by rw [h4]; exact G.out.alloc _
        have T4 : Blk w4 (w.heap.size + 1) 65 (tyG l0 k0 l1 k1 0) := by rw [h4]; exact T'.alloc _
        have V4 := hide (show Blk w4 w.heap.size 24 [.int .i64 0, .int .i64 0, .string ⟨#[]⟩, .slice none 0 0] by rw [h4]; exact V'.alloc _)
        clear h4 G V' T'
        refine ((T0 _ G4).out).mono ?_
        rintro e w5 ⟨rfl, G5⟩
        have G6 := G4.trans G5
        have T6 := T4.grew G5
        have V6 := hide (V4.out.grew G5)
        clear T4 V4 G5 G4 T0 T1
        have d0 := T6.cell 0 rfl
        have d1 := T6.cell 1 rfl
        have f0 := T6.free 0
        have f1 := T6.free 1
        have hlt6 := T6.lt
        have sz6 := G6.size
        go_wp2
        go_roundg 2
        case measure => omega
        case rel =>
          refine ⟨1, by go_num, by omega, by omega, hide ((G6.setCell (by dsimp only; omega) _).setCell (by dsimp only; omega) _), hide ((V6.out.other (by omega) _).other (by omega) _), hide (?_)⟩
          exact (T6.set' 0 _ rfl).set' 1 _ rfl
      · obtain rfl : i = 1 := by omega
        obtain ⟨bb, off, rfl, hbl, ⟨x0, x1, x2, x3⟩, y0, y1, y2, y3⟩ := HW
        have T' := T.out
        have V' := V.out
        clear H T V x0 x1 x2 x3 KF KA
        go_wp2_with fail
        refine name_calls fun w4 h4 => ?_
        have G4 : Grew w w4 := by rw [h4]; exact G.out.alloc _
        have T4 : Blk w4 (w.heap.size + 1) 65 (tyG l0 k0 l1 k1 1) := by rw [h4]; exact T'.alloc _
        have V4 := hide (show Blk w4 w.heap.size 24 [.int .i64 0, .int .i64 0, .string ⟨#[]⟩, .slice none 0 0] by rw [h4]; exact V'.alloc _)
        clear h4 G V' T'
        refine ((T1 _ G4).out).mono ?_
        rintro e w5 ⟨rfl, G5⟩
        have G6 := G4.trans G5
        have T6 := T4.grew G5
        have V6 := hide (V4.out.grew G5)
        clear T4 V4 G5 G4 T0 T1
        have d0 := T6.cell 2 rfl
        have d1 := T6.cell 3 rfl
        have f0 := T6.free 2
        have f1 := T6.free 3
        have hlt6 := T6.lt
        have sz6 := G6.size
        go_wp2
        go_roundg 1
        case measure => omega
        case rel =>
          refine ⟨2, by go_num, by omega, by omega, hide ((G6.setCell (by dsimp only; omega) _).setCell (by dsimp only; omega) _), hide ((V6.out.other (by omega) _).other (by omega) _), hide (?_)⟩
          exact (T6.set' 2 _ rfl).set' 3 _ rfl

end Go.Proofs.YtnhhmndnmkkhlaaDoor
