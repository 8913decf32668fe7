/- inspect, typeOf, Check, clone, equal and Equal at values without lists and texts. -/
import Derived.Test.YtnhhmndnmkkhlaaDoorExC
namespace Go.Proofs.YtnhhmndnmkkhlaaDoor
open Go.RowKit Go.Sort
set_option linter.unusedVariables false
set_option linter.unusedSimpArgs false

theorem Lf.kind {k n : Int} (h : Lf k n) : k = 1 ∨ k = 2 := by rcases h with ⟨h, _⟩ | ⟨h, _⟩ | ⟨h, _⟩ | ⟨h, _⟩ <;> simp [h]
theorem Blk.set' {w : World} {b : Nat} {T : TypeId} {vs vs' : List Value} (h : Blk w b T vs) (j : Nat) (v : Value) (hv : vs.set j v = vs') : Blk (w.setCell ⟨b, j, none⟩ v) b T vs' := hv ▸ h.set j v

set_option maxHeartbeats 4000000 in
theorem inspect_lf (k n c d : Int) (b : Nat) (w : World) (hb : Blk w b 85 [.int .i64 c]) (hc0 : 0 ≤ c) (hc : c < 1000) (hl : Lf k n) :
    Calls Tryd.prog 47 #[.pointer (some ⟨b, 0, none⟩), nv k n, .int .i64 d] w fun e w' => e = .returned (.tuple #[.agg #[.int .i64 0, .int .i64 (ckT k n)], .int .i64 (ckE k n)]) ∧ Upd b w w' ∧ Blk w' b 85 [.int .i64 (c + 1)] := by
  have hk := hl.kind
  have KA := fun b w hb => hide (inspectAlone_lf k n (c + 1) b w hb (by omega) hl)
  have hE : ckE k n = 0 ∧ ckT k n = k ∨ ckE k n = 1 ∧ ckT k n = 0 := by unfold ckE ckT; split <;> simp
  have wc : IntKind.i64.wrap (c + 1) = c + 1 := wr (by omega) (by omega)
  have hk4 : (k == 4) = false := by rcases hk with rfl | rfl <;> rfl
  have hk4' : (k != 4) = true := by rcases hk with rfl | rfl <;> rfl
  clear hl hk
  generalize ckE k n = E at *
  generalize ckT k n = T at *
  have hlt := hb.lt
  have b0 := hb.cell 0 rfl
  have b1 := hb.free 0
  go_enter Tryd.func47, Tryd.ntmps47
  go_wp2_with fail
  refine name_calls fun w2 h2 => ?_
  have U0 : Upd b w w2 := by rw [h2]; exact (Upd.set _ 0 _).trans (Upd.of_grew (((Grew.refl _).alloc _).alloc _))
  have V0 : Blk w2 w.heap.size 24 [.int .i64 k, .int .i64 n, .string ⟨#[]⟩, .slice none 0 0] := by
    rw [h2]; repeat' (first | (with_reducible assumption) | ((with_reducible refine Blk.new ?_); (first | (with_reducible rfl) | (simp only [World.size_alloc, World.size_setCell, size_drewN]; done))) | (with_reducible refine Blk.alloc ?_ _) | (refine Blk.other ?_ (by omega) _) | fail)
  have V1 : Blk w2 (w.heap.size + 1) 65 [.int .i64 0, .int .i64 0] := by
    rw [h2]; repeat' (first | (with_reducible assumption) | ((with_reducible refine Blk.new ?_); (first | (with_reducible rfl) | (simp only [World.size_alloc, World.size_setCell, size_drewN]; done))) | (with_reducible refine Blk.alloc ?_ _) | (refine Blk.other ?_ (by omega) _) | fail)
  have V2 : Blk w2 b 85 [.int .i64 (c + 1)] := by
    rw [h2]; exact ((Blk.set' hb 0 _ rfl).alloc _).alloc _
  clear h2
  refine ((KA b w2 V2).out).mono ?_
  rintro e w3 ⟨rfl, G3⟩
  have W0 := V0.grew G3
  have W1 := V1.grew G3
  have W2 := V2.grew G3
  have U1 : Upd b w w3 := U0.trans (Upd.of_grew G3)
  clear V0 V1 V2 U0 G3 KA
  have c0 := W0.cell 0 rfl
  have c1 := W0.cell 1 rfl
  have c2 := W0.cell 2 rfl
  have c3 := W0.cell 3 rfl
  have e0 := W1.cell 0 rfl
  have e1 := W1.cell 1 rfl
  have f0 := W1.free 0
  have f1 := W1.free 1
  rcases hE with ⟨rfl, rfl⟩ | ⟨rfl, rfl⟩
  · go_wp2
    have X1 : Blk ((w3.setCell ⟨w.heap.size + 1, 0, none⟩ (.int .i64 0)).setCell ⟨w.heap.size + 1, 1, none⟩ (.int .i64 T)) (w.heap.size + 1) 65 [.int .i64 0, .int .i64 T] := (W1.set' 0 _ rfl).set' 1 _ rfl
    have x0 := X1.cell 0 rfl
    have x1 := X1.cell 1 rfl
    refine bodyPost_ret (v := .tuple #[.agg #[.int .i64 0, .int .i64 T], .int .i64 0]) (by simp [results, Tryd.results47, go_sem, x0, x1]) rfl ⟨rfl, ?_, ?_⟩
    · exact ⟨U1.os, U1.tape, U1.output, by simp; exact U1.size, fun j hj hn => by rw [heap_setCell_other _ _ _ _ (by show j ≠ w.heap.size + 1; omega), heap_setCell_other _ _ _ _ (by show j ≠ w.heap.size + 1; omega)]; exact U1.blk j hj hn⟩
    · exact (W2.other (by omega) _).other (by omega) _
  · go_wp2
    have X1 : Blk ((w3.setCell ⟨w.heap.size + 1, 0, none⟩ (.int .i64 0)).setCell ⟨w.heap.size + 1, 1, none⟩ (.int .i64 0)) (w.heap.size + 1) 65 [.int .i64 0, .int .i64 0] := (W1.set' 0 _ rfl).set' 1 _ rfl
    have x0 := X1.cell 0 rfl
    have x1 := X1.cell 1 rfl
    refine bodyPost_ret (v := .tuple #[.agg #[.int .i64 0, .int .i64 0], .int .i64 1]) (by simp [results, Tryd.results47, go_sem, x0, x1]) rfl ⟨rfl, ?_, ?_⟩
    · exact ⟨U1.os, U1.tape, U1.output, by simp; exact U1.size, fun j hj hn => by rw [heap_setCell_other _ _ _ _ (by show j ≠ w.heap.size + 1; omega), heap_setCell_other _ _ _ _ (by show j ≠ w.heap.size + 1; omega)]; exact U1.blk j hj hn⟩
    · exact (W2.other (by omega) _).other (by omega) _

set_option maxHeartbeats 4000000 in
theorem typeOf_lf (k n : Int) (w : World) (hl : Lf k n) : Calls Tryd.prog 33 #[nv k n] w fun e w' => e = .returned (.tuple #[.agg #[.int .i64 0, .int .i64 (ckT k n)], .int .i64 (ckE k n)]) ∧ Grew w w' := by
  have KA := fun b w hb => hide (inspect_lf k n 0 0 b w hb (by omega) (by omega) hl)
  generalize ckE k n = E at *
  generalize ckT k n = T at *
  go_enter Tryd.func33, Tryd.ntmps33
  go_wp2_with fail
  refine name_calls fun w1 h1 => ?_
  have G1 : Grew w w1 := by rw [h1]; exact (((Grew.refl _).alloc _).alloc _).alloc _
  have B1_1 : Blk w1 (w.heap.size + 1) 65 [.int .i64 0, .int .i64 0] := by
    rw [h1]; repeat' (first | (with_reducible assumption) | ((with_reducible refine Blk.new ?_); (first | (with_reducible rfl) | (simp only [World.size_alloc, World.size_setCell, size_drewN]; done))) | (with_reducible refine Blk.alloc ?_ _) | (refine Blk.other ?_ (by omega) _) | fail)
  have B1_2 : Blk w1 (w.heap.size + 1 + 1) 85 [.int .i64 0] := by
    rw [h1]; repeat' (first | (with_reducible assumption) | ((with_reducible refine Blk.new ?_); (first | (with_reducible rfl) | (simp only [World.size_alloc, World.size_setCell, size_drewN]; done))) | (with_reducible refine Blk.alloc ?_ _) | (refine Blk.other ?_ (by omega) _) | fail)
  clear h1
  refine ((KA _ w1 B1_2).out).mono ?_
  rintro e w2 ⟨rfl, U2, B2⟩
  have G2 : Grew w w2 := U2.grew G1 (by omega)
  have V1 := B1_1.upd U2 (by omega)
  have e0 := V1.cell 0 rfl
  have e1 := V1.cell 1 rfl
  have f0 := V1.free 0
  have f1 := V1.free 1
  clear B1_1 B1_2 U2 B2
  go_wp2
  have X1 : Blk ((w2.setCell ⟨w.heap.size + 1, 0, none⟩ (.int .i64 0)).setCell ⟨w.heap.size + 1, 1, none⟩ (.int .i64 T)) (w.heap.size + 1) 65 [.int .i64 0, .int .i64 T] := (V1.set' 0 _ rfl).set' 1 _ rfl
  have x0 := X1.cell 0 rfl
  have x1 := X1.cell 1 rfl
  refine bodyPost_ret (v := .tuple #[.agg #[.int .i64 0, .int .i64 T], .int .i64 E]) (by simp [results, Tryd.results33, go_sem, x0, x1]) rfl ⟨rfl, ?_⟩
  exact (G2.setCell (by dsimp only; omega) _).setCell (by dsimp only; omega) _

set_option maxHeartbeats 4000000 in
theorem Check_lf (k n : Int) (w : World) (hl : Lf k n) : Calls Tryd.prog 11 #[nv k n] w fun e w' => e = .returned (.int .i64 (ckE k n)) ∧ Grew w w' := by
  have KA := fun w => hide (typeOf_lf k n w hl)
  generalize ckE k n = E at *
  generalize ckT k n = T at *
  go_enter Tryd.func11, Tryd.ntmps11
  go_wp2_with fail
  refine ((KA _).out).mono ?_
  rintro e w1 ⟨rfl, G1⟩
  try (with_reducible replace G1 := Grew.undrawn G1)
  have B1_0 : Blk w1 (w.heap.size) 24 [.int .i64 k, .int .i64 n, .string ⟨#[]⟩, .slice none 0 0] := Blk.grew (by (repeat' (first | (with_reducible assumption) | ((with_reducible refine Blk.new ?_); (first | (with_reducible rfl) | (simp only [World.size_alloc, World.size_setCell, size_drewN]; done))) | (with_reducible refine Blk.alloc ?_ _) | (with_reducible refine Blk.drewN ?_ _) | (with_reducible refine Blk.drew ?_) | (refine Blk.other ?_ (by omega) _) | fail))) G1
  have z1 := G1.size
  try simp only [World.size_alloc, World.size_setCell, size_drewN] at z1
  replace G1 := hide G1
  have t1_0 := B1_0.lt
  have d1_0_0 := B1_0.cell 0 rfl
  have e1_0_0 := B1_0.free 0
  have d1_0_1 := B1_0.cell 1 rfl
  have e1_0_1 := B1_0.free 1
  have d1_0_2 := B1_0.cell 2 rfl
  have e1_0_2 := B1_0.free 2
  have d1_0_3 := B1_0.cell 3 rfl
  have e1_0_3 := B1_0.free 3
  go_wp2
  go_ret
  refine ⟨rfl, ?_⟩
  repeat' (first | (with_reducible exact Grew.refl _) | (with_reducible refine Grew.setCell ?_ ?_ _) | (with_reducible refine Grew.drewN ?_ _) | (with_reducible refine Grew.reD ?_ _) | (with_reducible refine Grew.alloc ?_ _) | (with_reducible refine Grew.trans ?_ G1.out) | (dsimp only; omega))

set_option maxHeartbeats 4000000 in
theorem clone_lf (k n : Int) (w : World) : Calls Tryd.prog 46 #[nv k n] w fun e w' => e = .returned (nv k n) ∧ Grew w w' := by
  go_enter Tryd.func46, Tryd.ntmps46
  go_wp2
  go_loop [3, 9] (fun l i => l = .slice none 0 0 ∧ i = .int .i64 0) (fun _ _ => 0)
  case atStart => exact ⟨rfl, rfl⟩
  case round =>
    obtain ⟨rfl, rfl⟩ := hrel
    go_wp2
    refine bodyPost_ret (v := nv k n) (by simp [results, Tryd.results46, go_sem]) rfl ⟨rfl, ?_⟩
    repeat' (first | (with_reducible exact Grew.refl _) | (with_reducible refine Grew.setCell ?_ ?_ _) | (with_reducible refine Grew.drewN ?_ _) | (with_reducible refine Grew.reD ?_ _) | (with_reducible refine Grew.alloc ?_ _) | (dsimp only; omega))

set_option maxHeartbeats 4000000 in
theorem equal_lf (k n : Int) (w : World) : Calls Tryd.prog 36 #[nv k n, nv k n] w fun e w' => e = .returned (.bool true) ∧ Grew w w' := by
  go_enter Tryd.func36, Tryd.ntmps36
  go_wp2
  go_loop [37] (fun i => i = .int .i64 0) (fun _ => 0)
  case atStart => rfl
  case round =>
    obtain rfl := hrel
    go_wp2
    go_ret
    refine ⟨rfl, ?_⟩
    repeat' (first | (with_reducible exact Grew.refl _) | (with_reducible refine Grew.setCell ?_ ?_ _) | (with_reducible refine Grew.drewN ?_ _) | (with_reducible refine Grew.reD ?_ _) | (with_reducible refine Grew.alloc ?_ _) | (dsimp only; omega))

set_option maxHeartbeats 4000000 in
theorem Equal_lf (k n : Int) (w : World) (hl : Lf k n) (h0 : ckE k n = 0) : Calls Tryd.prog 14 #[nv k n, nv k n] w fun e w' => e = .returned (.bool true) ∧ Grew w w' := by
  have KA := fun w => hide (Check_lf k n w hl)
  have KB := fun w => hide (equal_lf k n w)
  rw [h0] at KA
  go_enter Tryd.func14, Tryd.ntmps14
  go_wp2_with fail
  refine ((KA _).out).mono ?_
  rintro e w1 ⟨rfl, G1⟩
  try (with_reducible replace G1 := Grew.undrawn G1)
  have B1_0 : Blk w1 (w.heap.size) 24 [.int .i64 k, .int .i64 n, .string ⟨#[]⟩, .slice none 0 0] := Blk.grew (by (repeat' (first | (with_reducible assumption) | ((with_reducible refine Blk.new ?_); (first | (with_reducible rfl) | (simp only [World.size_alloc, World.size_setCell, size_drewN]; done))) | (with_reducible refine Blk.alloc ?_ _) | (with_reducible refine Blk.drewN ?_ _) | (with_reducible refine Blk.drew ?_) | (refine Blk.other ?_ (by omega) _) | fail))) G1
  have B1_1 : Blk w1 (w.heap.size + 1) 24 [.int .i64 k, .int .i64 n, .string ⟨#[]⟩, .slice none 0 0] := Blk.grew (by (repeat' (first | (with_reducible assumption) | ((with_reducible refine Blk.new ?_); (first | (with_reducible rfl) | (simp only [World.size_alloc, World.size_setCell, size_drewN]; done))) | (with_reducible refine Blk.alloc ?_ _) | (with_reducible refine Blk.drewN ?_ _) | (with_reducible refine Blk.drew ?_) | (refine Blk.other ?_ (by omega) _) | fail))) G1
  have z1 := G1.size
  try simp only [World.size_alloc, World.size_setCell, size_drewN] at z1
  replace G1 := hide G1
  have t1_0 := B1_0.lt
  have d1_0_0 := B1_0.cell 0 rfl
  have e1_0_0 := B1_0.free 0
  have d1_0_1 := B1_0.cell 1 rfl
  have e1_0_1 := B1_0.free 1
  have d1_0_2 := B1_0.cell 2 rfl
  have e1_0_2 := B1_0.free 2
  have d1_0_3 := B1_0.cell 3 rfl
  have e1_0_3 := B1_0.free 3
  have t1_1 := B1_1.lt
  have d1_1_0 := B1_1.cell 0 rfl
  have e1_1_0 := B1_1.free 0
  have d1_1_1 := B1_1.cell 1 rfl
  have e1_1_1 := B1_1.free 1
  have d1_1_2 := B1_1.cell 2 rfl
  have e1_1_2 := B1_1.free 2
  have d1_1_3 := B1_1.cell 3 rfl
  have e1_1_3 := B1_1.free 3
  go_wp2_with fail
  refine ((KB _).out).mono ?_
  rintro e w2 ⟨rfl, G2⟩
  try (with_reducible replace G2 := Grew.undrawn G2)
  have B2_0 : Blk w2 (w.heap.size) 24 [.int .i64 k, .int .i64 n, .string ⟨#[]⟩, .slice none 0 0] := Blk.grew (by (repeat' (first | (with_reducible assumption) | ((with_reducible refine Blk.new ?_); (first | (with_reducible rfl) | (simp only [World.size_alloc, World.size_setCell, size_drewN]; done))) | (with_reducible refine Blk.alloc ?_ _) | (with_reducible refine Blk.drewN ?_ _) | (with_reducible refine Blk.drew ?_) | (refine Blk.other ?_ (by omega) _) | fail))) G2
  have B2_1 : Blk w2 (w.heap.size + 1) 24 [.int .i64 k, .int .i64 n, .string ⟨#[]⟩, .slice none 0 0] := Blk.grew (by (repeat' (first | (with_reducible assumption) | ((with_reducible refine Blk.new ?_); (first | (with_reducible rfl) | (simp only [World.size_alloc, World.size_setCell, size_drewN]; done))) | (with_reducible refine Blk.alloc ?_ _) | (with_reducible refine Blk.drewN ?_ _) | (with_reducible refine Blk.drew ?_) | (refine Blk.other ?_ (by omega) _) | fail))) G2
  have z2 := G2.size
  try simp only [World.size_alloc, World.size_setCell, size_drewN] at z2
  replace G2 := hide G2
  have t2_0 := B2_0.lt
  have d2_0_0 := B2_0.cell 0 rfl
  have e2_0_0 := B2_0.free 0
  have d2_0_1 := B2_0.cell 1 rfl
  have e2_0_1 := B2_0.free 1
  have d2_0_2 := B2_0.cell 2 rfl
  have e2_0_2 := B2_0.free 2
  have d2_0_3 := B2_0.cell 3 rfl
  have e2_0_3 := B2_0.free 3
  have t2_1 := B2_1.lt
  have d2_1_0 := B2_1.cell 0 rfl
  have e2_1_0 := B2_1.free 0
  have d2_1_1 := B2_1.cell 1 rfl
  have e2_1_1 := B2_1.free 1
  have d2_1_2 := B2_1.cell 2 rfl
  have e2_1_2 := B2_1.free 2
  have d2_1_3 := B2_1.cell 3 rfl
  have e2_1_3 := B2_1.free 3
  go_wp2
  go_ret
  refine ⟨rfl, ?_⟩
  repeat' (first | (with_reducible exact Grew.refl _) | (with_reducible refine Grew.setCell ?_ ?_ _) | (with_reducible refine Grew.drewN ?_ _) | (with_reducible refine Grew.reD ?_ _) | (with_reducible refine Grew.alloc ?_ _) | (with_reducible refine Grew.trans ?_ G2.out) | (with_reducible refine Grew.trans ?_ G1.out) | (dsimp only; omega))
end Go.Proofs.YtnhhmndnmkkhlaaDoor
