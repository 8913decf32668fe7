/- Type at an int, without typings. -/
import Derived.Test.YtnhhmndnmkkhlaaDoorExO
namespace Go.Proofs.YtnhhmndnmkkhlaaDoor
open Go.RowKit Go.Sort
set_option linter.unusedVariables false
set_option linter.unusedSimpArgs false

set_option maxRecDepth 20000 in
set_option maxHeartbeats 4000000 in
theorem fits_one (p : Option Addr) (m c : Nat) (w : World) : Calls Tryd.prog 65 #[.int .i64 1, .slice p m c] w fun e w' => e = .returned (.bool true) ∧ w = w' := by
  go_enter Tryd.func65, Tryd.ntmps65
  go_wp2
  go_ret
  exact ⟨rfl, rfl⟩
set_option maxHeartbeats 4000000 in
theorem result_one (p : Option Addr) (m c : Nat) (w : World) : Calls Tryd.prog 66 #[.int .i64 1, .slice p m c] w fun e w' => e = .returned (.tuple #[.agg #[.int .i64 0, .int .i64 1], .int .i64 0]) ∧ Grew w w' := by
  go_enter Tryd.func66, Tryd.ntmps66
  go_wp2
  refine bodyPost_ret (v := .tuple #[.agg #[.int .i64 0, .int .i64 1], .int .i64 0]) (by simp [results, Tryd.results66, go_sem]) rfl ⟨rfl, ?_⟩
  repeat' (first | (with_reducible exact Grew.refl _) | (with_reducible refine Grew.setCell ?_ ?_ _) | (with_reducible refine Grew.drewN ?_ _) | (with_reducible refine Grew.reD ?_ _) | (with_reducible refine Grew.alloc ?_ _) | (dsimp only; omega))
set_option maxHeartbeats 4000000 in
theorem nested_int (w : World) : Calls Tryd.prog 34 #[.agg #[.int .i64 0, .int .i64 1]] w fun e w' => e = .returned (.agg #[.int .i64 1, .slice none 0 0]) ∧ Grew w w' := by
  go_enter Tryd.func34, Tryd.ntmps34
  go_wp2
  go_loop [11] (fun i => i = .int .i64 0) (fun _ => 0)
  case atStart => rfl
  case round =>
    obtain rfl := hrel
    go_wp2
    refine bodyPost_ret (v := .agg #[.int .i64 1, .slice none 0 0]) (by simp [results, Tryd.results34, go_sem]) rfl ⟨rfl, ?_⟩
    repeat' (first | (with_reducible exact Grew.refl _) | (with_reducible refine Grew.setCell ?_ ?_ _) | (with_reducible refine Grew.drewN ?_ _) | (with_reducible refine Grew.reD ?_ _) | (with_reducible refine Grew.alloc ?_ _) | (dsimp only; omega))
set_option maxHeartbeats 4000000 in
theorem newScope_nil (w : World) : Calls Tryd.prog 49 #[.slice none 0 0] w fun e w' => e = .returned (.tuple #[.agg #[.slice none 0 0, .slice none 0 0], .int .i64 0]) ∧ Grew w w' := by
  go_enter Tryd.func49, Tryd.ntmps49
  go_wp2
  go_loop [13] (fun i => i = .int .i64 0) (fun _ => 0)
  case atStart => rfl
  case round =>
    obtain rfl := hrel
    go_wp2
    refine bodyPost_ret (v := .tuple #[.agg #[.slice none 0 0, .slice none 0 0], .int .i64 0]) (by simp [results, Tryd.results49, go_sem]) rfl ⟨rfl, ?_⟩
    repeat' (first | (with_reducible exact Grew.refl _) | (with_reducible refine Grew.setCell ?_ ?_ _) | (with_reducible refine Grew.drewN ?_ _) | (with_reducible refine Grew.reD ?_ _) | (with_reducible refine Grew.alloc ?_ _) | (dsimp only; omega))
set_option maxHeartbeats 4000000 in
theorem infer_int (n : Int) (s : ByteArray) (p : Option Addr) (c : Nat) (w : World) : Calls Tryd.prog 50 #[.agg #[.slice none 0 0, .slice none 0 0], (Nd.mk 1 n s 0 p c).v] w fun e w' => e = .returned (.tuple #[.agg #[.int .i64 0, .int .i64 1], .int .i64 0]) ∧ Grew w w' := by
  have KA := fun pp m c W => hide (fits_one pp m c W)
  have KB := fun pp m c W => hide (result_one pp m c W)
  dsimp only [Nd.v]
  go_enter Tryd.func50, Tryd.ntmps50
  have hmk := make_flat0 (((w.alloc (.cells #[.slice none 0 0, .slice none 0 0] 90)).alloc (.cells #[.int .i64 1, .int .i64 n, .string s, .slice p 0 c] 58)).alloc (.cells #[.int .i64 0, .int .i64 0] 65))
  simp only [World.size_alloc] at hmk
  go_wp2
  clear hmk
  refine name_world fun w1 h1 => ?_
  have G1 : Grew w w1 := by rw [h1]; exact ((((Grew.refl _).alloc _).alloc _).alloc _).alloc _
  have b1 : Blk w1 (w.heap.size + 1) 58 [.int .i64 1, .int .i64 n, .string s, .slice p 0 c] := by
    rw [h1]; repeat' (first | (with_reducible assumption) | ((with_reducible refine Blk.new ?_); (first | (with_reducible rfl) | (simp only [World.size_alloc, World.size_setCell, size_drewN]; done))) | (with_reducible refine Blk.alloc ?_ _) | (refine Blk.other ?_ (by omega) _) | fail)
  have b2 : Blk w1 (w.heap.size + 1 + 1) 65 [.int .i64 0, .int .i64 0] := by
    rw [h1]; repeat' (first | (with_reducible assumption) | ((with_reducible refine Blk.new ?_); (first | (with_reducible rfl) | (simp only [World.size_alloc, World.size_setCell, size_drewN]; done))) | (with_reducible refine Blk.alloc ?_ _) | (refine Blk.other ?_ (by omega) _) | fail)
  clear h1
  have x0 := b1.cell 0 rfl
  have x1 := b1.cell 1 rfl
  have x2 := b1.cell 2 rfl
  have x3 := b1.cell 3 rfl
  go_wp2
  go_loop [27] (fun i => i = .int .i64 0) (fun _ => 0)
  case atStart => rfl
  case round =>
    obtain rfl := hrel
    go_wp2_with fail
    refine ((KA _ _ _ _).out).mono ?_
    rintro e _ ⟨rfl, rfl⟩
    go_wp2_with fail
    refine ((KB _ _ _ _).out).mono ?_
    rintro e w2 ⟨rfl, G2⟩
    have X := b2.grew G2
    have GF := G1.trans G2
    have d0 := X.cell 0 rfl
    have fr0 := X.free 0
    have d1 := X.cell 1 rfl
    have fr1 := X.free 1
    have dlt := X.lt
    clear b1 b2 G1 G2 KA KB x0 x1 x2 x3
    go_wp2
    refine name_bp fun wq hq => ?_
    have Gq : Grew w wq := by
      rw [hq]
      repeat' (first | (with_reducible exact GF) | (with_reducible refine Grew.setCell ?_ ?_ _) | (with_reducible refine Grew.alloc ?_ _) | (dsimp only; omega))
    have Bq : Blk wq (w.heap.size + 1 + 1) 65 [.int .i64 0, .int .i64 1] := by
      rw [hq]
      exact (X.set' 0 _ rfl).set' 1 _ rfl
    have q0 := Bq.cell 0 rfl
    have q1 := Bq.cell 1 rfl
    exact bodyPost_ret (v := .tuple #[.agg #[.int .i64 0, .int .i64 1], .int .i64 0]) (by simp [results, Tryd.results50, go_sem, q0, q1]) rfl ⟨rfl, Gq⟩

theorem Vl.leaf {w0 : World} {B : Nat} {d : Nd} {dep : Int} (hg : Gd d) (hm : d.m = 0) (hd0 : 0 ≤ dep) (hd : dep ≤ 16) : Vl w0 B d dep 1 := by
  have := Vl.node (w0 := w0) (B := B) (d := d) (f := fun _ => d) (dep := dep) (ts := fun _ => 0) hg (by rw [hm]; exact Row.nil) hd0 hd (fun i hi => by omega)
  rwa [hm] at this
set_option maxHeartbeats 4000000 in
theorem Type_int (n : Int) (w : World) (hn : nuB n = true) : Calls Tryd.prog 37 #[nv 1 n, .slice none 0 0] w fun e w' => e = .returned (.tuple #[.agg #[.int .i64 1, .slice none 0 0], .int .i64 0]) ∧ Grew w w' := by
  have KA := fun W => hide (Validate_ok (w := W) (d := ⟨1, n, ⟨#[]⟩, 0, none, 0⟩) (t := 1) (Vl.leaf (.inl ⟨rfl, hn, rfl, rfl⟩) rfl (by omega) (by omega)) (by omega))
  have KB := fun W => hide (newScope_nil W)
  have KC := fun W => hide (infer_int n ⟨#[]⟩ none 0 W)
  have KD := fun W => hide (nested_int W)
  dsimp only [Nd.v] at KA KC
  go_enter Tryd.func37, Tryd.ntmps37
  go_wp2_with fail
  refine ((KA _).out).mono ?_
  rintro e w1 ⟨rfl, G1⟩
  try (with_reducible replace G1 := Grew.undrawn G1)
  have B1_0 : Blk w1 (w.heap.size) 58 [.int .i64 1, .int .i64 n, .string ⟨#[]⟩, .slice none 0 0] := Blk.grew (by (repeat' (first | (with_reducible assumption) | ((with_reducible refine Blk.new ?_); (first | (with_reducible rfl) | (simp only [World.size_alloc, World.size_setCell, size_drewN]; done))) | (with_reducible refine Blk.alloc ?_ _) | (with_reducible refine Blk.drewN ?_ _) | (with_reducible refine Blk.drew ?_) | (refine Blk.other ?_ (by omega) _) | fail))) G1
  have B1_1 : Blk w1 (w.heap.size + 1) 28 [.int .i64 0, .slice none 0 0] := Blk.grew (by (repeat' (first | (with_reducible assumption) | ((with_reducible refine Blk.new ?_); (first | (with_reducible rfl) | (simp only [World.size_alloc, World.size_setCell, size_drewN]; done))) | (with_reducible refine Blk.alloc ?_ _) | (with_reducible refine Blk.drewN ?_ _) | (with_reducible refine Blk.drew ?_) | (refine Blk.other ?_ (by omega) _) | fail))) G1
  have z1 := G1.size
  try simp only [World.size_alloc, World.size_setCell, size_drewN] at z1
  replace G1 := hide G1
  have t1_0 := B1_0.lt
  have d1_0_0 := B1_0.cell 0 rfl
  have e1_0_0 := B1_0.free 0
  have d1_0_1 := B1_0.cell 1 rfl
  have e1_0_1 := B1_0.free 1
  have d1_0_2 := B1_0.cell 2 rfl
  have e1_0_2 := B1_0.free 2
  have d1_0_3 := B1_0.cell 3 rfl
  have e1_0_3 := B1_0.free 3
  have t1_1 := B1_1.lt
  have d1_1_0 := B1_1.cell 0 rfl
  have e1_1_0 := B1_1.free 0
  have d1_1_1 := B1_1.cell 1 rfl
  have e1_1_1 := B1_1.free 1
  go_wp2_with fail
  refine ((KB _).out).mono ?_
  rintro e w2 ⟨rfl, G2⟩
  try (with_reducible replace G2 := Grew.undrawn G2)
  have B2_0 : Blk w2 (w.heap.size) 58 [.int .i64 1, .int .i64 n, .string ⟨#[]⟩, .slice none 0 0] := Blk.grew (by (repeat' (first | (with_reducible assumption) | ((with_reducible refine Blk.new ?_); (first | (with_reducible rfl) | (simp only [World.size_alloc, World.size_setCell, size_drewN]; done))) | (with_reducible refine Blk.alloc ?_ _) | (with_reducible refine Blk.drewN ?_ _) | (with_reducible refine Blk.drew ?_) | (refine Blk.other ?_ (by omega) _) | fail))) G2
  have B2_1 : Blk w2 (w.heap.size + 1) 28 [.int .i64 0, .slice none 0 0] := Blk.grew (by (repeat' (first | (with_reducible assumption) | ((with_reducible refine Blk.new ?_); (first | (with_reducible rfl) | (simp only [World.size_alloc, World.size_setCell, size_drewN]; done))) | (with_reducible refine Blk.alloc ?_ _) | (with_reducible refine Blk.drewN ?_ _) | (with_reducible refine Blk.drew ?_) | (refine Blk.other ?_ (by omega) _) | fail))) G2
  have z2 := G2.size
  try simp only [World.size_alloc, World.size_setCell, size_drewN] at z2
  replace G2 := hide G2
  have t2_0 := B2_0.lt
  have d2_0_0 := B2_0.cell 0 rfl
  have e2_0_0 := B2_0.free 0
  have d2_0_1 := B2_0.cell 1 rfl
  have e2_0_1 := B2_0.free 1
  have d2_0_2 := B2_0.cell 2 rfl
  have e2_0_2 := B2_0.free 2
  have d2_0_3 := B2_0.cell 3 rfl
  have e2_0_3 := B2_0.free 3
  have t2_1 := B2_1.lt
  have d2_1_0 := B2_1.cell 0 rfl
  have e2_1_0 := B2_1.free 0
  have d2_1_1 := B2_1.cell 1 rfl
  have e2_1_1 := B2_1.free 1
  go_wp2_with fail
  refine ((KC _).out).mono ?_
  rintro e w3 ⟨rfl, G3⟩
  try (with_reducible replace G3 := Grew.undrawn G3)
  have B3_0 : Blk w3 (w.heap.size) 58 [.int .i64 1, .int .i64 n, .string ⟨#[]⟩, .slice none 0 0] := Blk.grew (by (repeat' (first | (with_reducible assumption) | ((with_reducible refine Blk.new ?_); (first | (with_reducible rfl) | (simp only [World.size_alloc, World.size_setCell, size_drewN]; done))) | (with_reducible refine Blk.alloc ?_ _) | (with_reducible refine Blk.drewN ?_ _) | (with_reducible refine Blk.drew ?_) | (refine Blk.other ?_ (by omega) _) | fail))) G3
  have B3_1 : Blk w3 (w.heap.size + 1) 28 [.int .i64 0, .slice none 0 0] := Blk.grew (by (repeat' (first | (with_reducible assumption) | ((with_reducible refine Blk.new ?_); (first | (with_reducible rfl) | (simp only [World.size_alloc, World.size_setCell, size_drewN]; done))) | (with_reducible refine Blk.alloc ?_ _) | (with_reducible refine Blk.drewN ?_ _) | (with_reducible refine Blk.drew ?_) | (refine Blk.other ?_ (by omega) _) | fail))) G3
  have z3 := G3.size
  try simp only [World.size_alloc, World.size_setCell, size_drewN] at z3
  replace G3 := hide G3
  have t3_0 := B3_0.lt
  have d3_0_0 := B3_0.cell 0 rfl
  have e3_0_0 := B3_0.free 0
  have d3_0_1 := B3_0.cell 1 rfl
  have e3_0_1 := B3_0.free 1
  have d3_0_2 := B3_0.cell 2 rfl
  have e3_0_2 := B3_0.free 2
  have d3_0_3 := B3_0.cell 3 rfl
  have e3_0_3 := B3_0.free 3
  have t3_1 := B3_1.lt
  have d3_1_0 := B3_1.cell 0 rfl
  have e3_1_0 := B3_1.free 0
  have d3_1_1 := B3_1.cell 1 rfl
  have e3_1_1 := B3_1.free 1
  go_wp2_with fail
  refine ((KD _).out).mono ?_
  rintro e w4 ⟨rfl, G4⟩
  try (with_reducible replace G4 := Grew.undrawn G4)
  have B4_0 : Blk w4 (w.heap.size) 58 [.int .i64 1, .int .i64 n, .string ⟨#[]⟩, .slice none 0 0] := Blk.grew (by (repeat' (first | (with_reducible assumption) | ((with_reducible refine Blk.new ?_); (first | (with_reducible rfl) | (simp only [World.size_alloc, World.size_setCell, size_drewN]; done))) | (with_reducible refine Blk.alloc ?_ _) | (with_reducible refine Blk.drewN ?_ _) | (with_reducible refine Blk.drew ?_) | (refine Blk.other ?_ (by omega) _) | fail))) G4
  have B4_1 : Blk w4 (w.heap.size + 1) 28 [.int .i64 0, .slice none 0 0] := Blk.grew (by (repeat' (first | (with_reducible assumption) | ((with_reducible refine Blk.new ?_); (first | (with_reducible rfl) | (simp only [World.size_alloc, World.size_setCell, size_drewN]; done))) | (with_reducible refine Blk.alloc ?_ _) | (with_reducible refine Blk.drewN ?_ _) | (with_reducible refine Blk.drew ?_) | (refine Blk.other ?_ (by omega) _) | fail))) G4
  have z4 := G4.size
  try simp only [World.size_alloc, World.size_setCell, size_drewN] at z4
  replace G4 := hide G4
  have t4_0 := B4_0.lt
  have d4_0_0 := B4_0.cell 0 rfl
  have e4_0_0 := B4_0.free 0
  have d4_0_1 := B4_0.cell 1 rfl
  have e4_0_1 := B4_0.free 1
  have d4_0_2 := B4_0.cell 2 rfl
  have e4_0_2 := B4_0.free 2
  have d4_0_3 := B4_0.cell 3 rfl
  have e4_0_3 := B4_0.free 3
  have t4_1 := B4_1.lt
  have d4_1_0 := B4_1.cell 0 rfl
  have e4_1_0 := B4_1.free 0
  have d4_1_1 := B4_1.cell 1 rfl
  have e4_1_1 := B4_1.free 1
  go_wp2
  refine name_bp fun wq hq => ?_
  have Gq : Grew w wq := by
    rw [hq]
    repeat' (first | (with_reducible exact Grew.refl _) | (with_reducible refine Grew.setCell ?_ ?_ _) | (with_reducible refine Grew.drewN ?_ _) | (with_reducible refine Grew.reD ?_ _) | (with_reducible refine Grew.alloc ?_ _) | (with_reducible refine Grew.trans ?_ G4.out) | (with_reducible refine Grew.trans ?_ G3.out) | (with_reducible refine Grew.trans ?_ G2.out) | (with_reducible refine Grew.trans ?_ G1.out) | (dsimp only; omega))
  have Bq : Blk wq (w.heap.size + 1) 28 [.int .i64 1, .slice none 0 0] := by
    rw [hq]
    repeat (with_reducible refine Blk.alloc ?_ _)
    exact (B4_1.set' 0 _ rfl).set' 1 _ rfl
  have q0 := Bq.cell 0 rfl
  have q1 := Bq.cell 1 rfl
  exact bodyPost_ret (v := .tuple #[.agg #[.int .i64 1, .slice none 0 0], .int .i64 0]) (by simp [results, Tryd.results37, go_sem, q0, q1]) rfl ⟨rfl, Gq⟩
end Go.Proofs.YtnhhmndnmkkhlaaDoor
