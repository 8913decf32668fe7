/- The sanity check of layer 11. -/
import Derived.Test.YtnhhmndnmkkhlaaDoorExQ
namespace Go.Proofs.YtnhhmndnmkkhlaaDoor
open Go.RowKit Go.Sort
set_option linter.unusedVariables false
set_option linter.unusedSimpArgs false

def two (x y : Nd) : Nat → Nd
  | 0 => x
  | _ => y
def three (x y z : Nd) : Nat → Nd
  | 0 => x
  | 1 => y
  | _ => z
theorem Row.two {W : World} {b B : Nat} {T : TypeId} {x y : Nd} (h : Blk W b T [.int .i64 x.k, .int .i64 x.n, .string x.s, .slice x.p x.m x.c, .int .i64 y.k, .int .i64 y.n, .string y.s, .slice y.p y.m y.c]) (hb : b < B) : Row W B (some ⟨b, 0, none⟩) 2 (two x y) :=
  fun _ => ⟨b, 0, rfl, hb, fun i hi => by
    match i, hi with
    | 0, _ => exact ⟨h.cell 0 rfl, h.cell 1 rfl, h.cell 2 rfl, h.cell 3 rfl⟩
    | 1, _ => exact ⟨h.cell 4 rfl, h.cell 5 rfl, h.cell 6 rfl, h.cell 7 rfl⟩⟩
theorem Row.three {W : World} {b B : Nat} {T : TypeId} {x y z : Nd} (h : Blk W b T [.int .i64 x.k, .int .i64 x.n, .string x.s, .slice x.p x.m x.c, .int .i64 y.k, .int .i64 y.n, .string y.s, .slice y.p y.m y.c, .int .i64 z.k, .int .i64 z.n, .string z.s, .slice z.p z.m z.c]) (hb : b < B) : Row W B (some ⟨b, 0, none⟩) 3 (three x y z) :=
  fun _ => ⟨b, 0, rfl, hb, fun i hi => by
    match i, hi with
    | 0, _ => exact ⟨h.cell 0 rfl, h.cell 1 rfl, h.cell 2 rfl, h.cell 3 rfl⟩
    | 1, _ => exact ⟨h.cell 4 rfl, h.cell 5 rfl, h.cell 6 rfl, h.cell 7 rfl⟩
    | 2, _ => exact ⟨h.cell 8 rfl, h.cell 9 rfl, h.cell 10 rfl, h.cell 11 rfl⟩⟩
theorem BRow.one {W : World} {b B : Nat} {T : TypeId} {x : Bd} (h : Blk W b T x.cells) (hb : b < B) : BRow W B (some ⟨b, 0, none⟩) 1 (fun _ => x) :=
  fun _ => ⟨b, 0, rfl, hb, fun i hi => by
    match i, hi with
    | 0, _ => exact ⟨h.cell 0 rfl, h.cell 1 rfl, h.cell 2 rfl, h.cell 3 rfl, h.cell 4 rfl⟩⟩
/-- A node of a kind with a number alone. -/
abbrev nd (k n : Int) : Nd := ⟨k, n, ⟨#[]⟩, 0, none, 0⟩
set_option maxHeartbeats 4000000 in
theorem lin_any (n : Int) (w : World) : Calls Tryd.prog 31 #[.int .i64 n] w fun e w' => e = .returned (nv 1 n) ∧ Grew w w' := by
  go_enter Tryd.func31, Tryd.ntmps31
  go_wp2
  refine bodyPost_ret (v := nv 1 n) (by simp [results, Tryd.results31, go_sem]) rfl ⟨rfl, ?_⟩
  repeat' (first | (with_reducible exact Grew.refl _) | (with_reducible refine Grew.setCell ?_ ?_ _) | (with_reducible refine Grew.drewN ?_ _) | (with_reducible refine Grew.reD ?_ _) | (with_reducible refine Grew.alloc ?_ _) | (dsimp only; omega))
set_option maxHeartbeats 4000000 in
theorem lint_any (n : Int) (w : World) : Calls Tryd.prog 24 #[.int .i64 n] w fun e w' => e = .returned (nv 1 n) ∧ Grew w w' := by
  go_enter Tryd.func24, Tryd.ntmps24
  go_wp2
  refine bodyPost_ret (v := nv 1 n) (by simp [results, Tryd.results24, go_sem]) rfl ⟨rfl, ?_⟩
  repeat' (first | (with_reducible exact Grew.refl _) | (with_reducible refine Grew.setCell ?_ ?_ _) | (with_reducible refine Grew.drewN ?_ _) | (with_reducible refine Grew.reD ?_ _) | (with_reducible refine Grew.alloc ?_ _) | (dsimp only; omega))
theorem Name_grew (s : ByteArray) (w : World) (hs : s.size ≤ 4611686018427387904) : Calls Tryd.prog 38 #[.string s] w fun e w' => e = .returned (.bool (nmB s)) ∧ Grew w w' :=
  (Name_any s w hs).mono fun _ _ ⟨e, h⟩ => ⟨e, h ▸ Grew.refl _⟩

/-- 2 + x, where x is 3. -/
theorem sum_ok (w : World) (a b : Nat) (ha : Blk w a 58 [.int .i64 1, .int .i64 2, .string ⟨#[]⟩, .slice none 0 0, .int .i64 4, .int .i64 0, .string ⟨#[120]⟩, .slice none 0 0])
    (hb : Blk w b 54 [.string ⟨#[120]⟩, .int .i64 1, .int .i64 3, .string ⟨#[]⟩, .slice none 0 0]) :
    Calls Tryd.prog 30 #[.agg #[.int .i64 5, .int .i64 0, .string ⟨#[]⟩, .slice (some ⟨a, 0, none⟩) 2 2], .slice (some ⟨b, 0, none⟩) 1 1] w fun e w' => e = .returned (.tuple #[nv 1 5, .int .i64 0]) ∧ Grew w w' := by
  have hR : Row w w.heap.size (some ⟨a, 0, none⟩) 2 (two (nd 1 2) ⟨4, 0, ⟨#[120]⟩, 0, none, 0⟩) := Row.two ha ha.lt
  have hBR : BRow w w.heap.size (some ⟨b, 0, none⟩) 1 (fun _ => ⟨⟨#[120]⟩, nd 1 3⟩) := BRow.one hb hb.lt
  have hV : Vl w w.heap.size ⟨5, 0, ⟨#[]⟩, 2, some ⟨a, 0, none⟩, 2⟩ 1 3 :=
    Vl.node (ts := fun _ => 1) (.inr (.inr (.inr ⟨by show (4 : Int) < 5; omega, rfl, rfl, .inr (.inl ⟨.inl rfl, rfl⟩)⟩))) hR (by omega) (by omega) fun i hi => by
      match i, hi with
      | 0, _ => exact Vl.leaf (.inl ⟨rfl, by decide, rfl, rfl⟩) rfl (by omega) (by omega)
      | 1, _ => exact Vl.leaf (.inr (.inr (.inl ⟨rfl, rfl, ⟨by rfl, by decide⟩, rfl⟩))) rfl (by omega) (by omega)
  have hE : Evs w w.heap.size (some ⟨b, 0, none⟩) 1 1 ⟨5, 0, ⟨#[]⟩, 2, some ⟨a, 0, none⟩, 2⟩ (0, 1, 5) := by
    have := Evs.bin (op := 5) (k0 := 1) (n0 := 2) (k1 := 1) (n1 := 3) (c := 2) (s := ⟨#[]⟩) (pe := some ⟨b, 0, none⟩) (me := 1) (ce := 1) (.inl rfl) hR (Nat.le_refl _) Evs.int (Evs.var (by omega) hBR (Nat.le_refl _) rfl) (.inl ⟨rfl, by decide⟩) (.inl ⟨rfl, by decide⟩)
    rwa [show opR 5 1 2 1 3 = (0, 1, 5) by simp [opR, calR, nuB]] at this
  have hF : LfB (fun _ => ⟨⟨#[120]⟩, nd 1 3⟩) 1 := fun i _ => ⟨1, 3, .inl ⟨rfl, by decide⟩, rfl⟩
  have := Eval_ok (d := ⟨5, 0, ⟨#[]⟩, 2, some ⟨a, 0, none⟩, 2⟩) (t := 3) (E := 0) (K := 1) (N := 5) w hV (by omega) hE (by omega) hBR hF
  exact this

set_option maxHeartbeats 4000000 in
theorem awake_any (w : World) : Calls Tryd.prog 16 #[] w fun e w' => e = .returned (.bool true) ∧ Grew w w' := by
  have K1 := fun W => hide (lin_any 2 W)
  have K2 := fun W => hide (lint_any 3 W)
  have K3 := fun W a b ha hb => hide (sum_ok W a b ha hb)
  have K4 := fun W => hide (lin_any 1 W)
  have K5 := fun W => hide (Type_int 1 W (by decide))
  have K6 := fun W => hide (lint_any 5 W)
  have K7 := fun W => hide (Equal_lf 1 5 W (.inl ⟨rfl, by decide⟩) (by decide))
  have K8 := fun W => hide (Name_grew ⟨#[120]⟩ W (by decide))
  have K9 := fun W => hide (Name_grew ⟨#[49]⟩ W (by decide))
  rw [show nmB ⟨#[120]⟩ = true from rfl] at K8
  rw [show nmB ⟨#[49]⟩ = false from rfl] at K9
  go_enter Tryd.func16, Tryd.ntmps16
  go_wp2_with fail
  refine ((K1 _).out).mono ?_
  rintro e w1 ⟨rfl, G1⟩
  replace G1 := hide G1
  go_wp2_with fail
  refine name_calls fun w2 h2 => ?_
  have G2 : Hid (Grew w1 w2) := hide (by rw [h2]; exact (Grew.refl _).alloc _)
  have B2 : Blk w2 w1.heap.size 58 [.int .i64 1, .int .i64 2, .string ⟨#[]⟩, .slice none 0 0, .int .i64 4, .int .i64 0, .string ⟨#[120]⟩, .slice none 0 0] := by
    rw [h2]; exact Blk.new rfl
  clear h2
  refine ((K2 _).out).mono ?_
  rintro e w3 ⟨rfl, G3⟩
  have B3 := B2.grew G3
  replace G3 := hide G3
  go_wp2_with fail
  refine name_calls fun w4 h4 => ?_
  have G4 : Hid (Grew w3 w4) := hide (by rw [h4]; exact (Grew.refl _).alloc _)
  have B4 : Blk w4 w1.heap.size 58 [.int .i64 1, .int .i64 2, .string ⟨#[]⟩, .slice none 0 0, .int .i64 4, .int .i64 0, .string ⟨#[120]⟩, .slice none 0 0] := by
    rw [h4]; exact B3.alloc _
  have C4 : Blk w4 w3.heap.size 54 [.string ⟨#[120]⟩, .int .i64 1, .int .i64 3, .string ⟨#[]⟩, .slice none 0 0] := by
    rw [h4]; exact Blk.new rfl
  clear h4
  refine ((K3 w4 _ _ B4 C4).out).mono ?_
  rintro e w5 ⟨rfl, G5⟩
  have GG : Hid (Grew w w5) := hide ((((G1.out.trans G2.out).trans G3.out).trans G4.out).trans G5)
  have G5' := GG
  clear G1 G2 G3 G4 G5 B2 B3 B4 C4 K1 K2 K3 GG
  have G5 := G5'
  clear G5'
  go_wp2_with fail
  refine ((K4 _).out).mono ?_
  rintro e w6 ⟨rfl, G6⟩
  try (with_reducible replace G6 := Grew.undrawn G6)
  have B6_0 : Blk w6 (w5.heap.size) 24 [.int .i64 1, .int .i64 5, .string ⟨#[]⟩, .slice none 0 0] := Blk.grew (by (repeat' (first | (with_reducible assumption) | ((with_reducible refine Blk.new ?_); (first | (with_reducible rfl) | (simp only [World.size_alloc, World.size_setCell, size_drewN]; done))) | (with_reducible refine Blk.alloc ?_ _) | (with_reducible refine Blk.drewN ?_ _) | (with_reducible refine Blk.drew ?_) | (refine Blk.other ?_ (by omega) _) | fail))) G6
  have z6 := G6.size
  try simp only [World.size_alloc, World.size_setCell, size_drewN] at z6
  replace G6 := hide G6
  have t6_0 := B6_0.lt
  have d6_0_0 := B6_0.cell 0 rfl
  have e6_0_0 := B6_0.free 0
  have d6_0_1 := B6_0.cell 1 rfl
  have e6_0_1 := B6_0.free 1
  have d6_0_2 := B6_0.cell 2 rfl
  have e6_0_2 := B6_0.free 2
  have d6_0_3 := B6_0.cell 3 rfl
  have e6_0_3 := B6_0.free 3
  go_wp2_with fail
  refine ((K5 _).out).mono ?_
  rintro e w7 ⟨rfl, G7⟩
  try (with_reducible replace G7 := Grew.undrawn G7)
  have B7_0 : Blk w7 (w5.heap.size) 24 [.int .i64 1, .int .i64 5, .string ⟨#[]⟩, .slice none 0 0] := Blk.grew (by (repeat' (first | (with_reducible assumption) | ((with_reducible refine Blk.new ?_); (first | (with_reducible rfl) | (simp only [World.size_alloc, World.size_setCell, size_drewN]; done))) | (with_reducible refine Blk.alloc ?_ _) | (with_reducible refine Blk.drewN ?_ _) | (with_reducible refine Blk.drew ?_) | (refine Blk.other ?_ (by omega) _) | fail))) G7
  have z7 := G7.size
  try simp only [World.size_alloc, World.size_setCell, size_drewN] at z7
  replace G7 := hide G7
  have t7_0 := B7_0.lt
  have d7_0_0 := B7_0.cell 0 rfl
  have e7_0_0 := B7_0.free 0
  have d7_0_1 := B7_0.cell 1 rfl
  have e7_0_1 := B7_0.free 1
  have d7_0_2 := B7_0.cell 2 rfl
  have e7_0_2 := B7_0.free 2
  have d7_0_3 := B7_0.cell 3 rfl
  have e7_0_3 := B7_0.free 3
  clear K4 K5
  go_wp2_with fail
  refine name_world fun w8 h8 => ?_
  have G8 : Grew w w8 := by
    rw [h8]
    repeat' (first | (with_reducible exact Grew.refl _) | (with_reducible refine Grew.setCell ?_ ?_ _) | (with_reducible refine Grew.drewN ?_ _) | (with_reducible refine Grew.reD ?_ _) | (with_reducible refine Grew.alloc ?_ _) | (with_reducible refine Grew.trans ?_ G8.out) | (with_reducible refine Grew.trans ?_ G7.out) | (with_reducible refine Grew.trans ?_ G6.out) | (with_reducible refine Grew.trans ?_ G5.out) | (with_reducible refine Grew.trans ?_ G4.out) | (with_reducible refine Grew.trans ?_ G3.out) | (with_reducible refine Grew.trans ?_ G2.out) | (with_reducible refine Grew.trans ?_ G1.out) | (dsimp only; omega))
  have B8_0 : Blk w8 (w5.heap.size) 24 [.int .i64 1, .int .i64 5, .string ⟨#[]⟩, .slice none 0 0] := by (rw [h8]; repeat' (first | (with_reducible assumption) | ((with_reducible refine Blk.new ?_); (first | (with_reducible rfl) | (simp only [World.size_alloc, World.size_setCell, size_drewN]; done))) | (with_reducible refine Blk.alloc ?_ _) | (with_reducible refine Blk.drewN ?_ _) | (with_reducible refine Blk.drew ?_) | (refine Blk.other ?_ (by omega) _) | fail))
  have B8_1 : Blk w8 (w7.heap.size) 28 [.int .i64 1, .slice none 0 0] := by (rw [h8]; repeat' (first | (with_reducible assumption) | ((with_reducible refine Blk.new ?_); (first | (with_reducible rfl) | (simp only [World.size_alloc, World.size_setCell, size_drewN]; done))) | (with_reducible refine Blk.alloc ?_ _) | (with_reducible refine Blk.drewN ?_ _) | (with_reducible refine Blk.drew ?_) | (refine Blk.other ?_ (by omega) _) | fail))
  have z8 := G8.size
  replace G8 := hide G8
  clear h8
  have t8_0 := B8_0.lt
  have d8_0_0 := B8_0.cell 0 rfl
  have e8_0_0 := B8_0.free 0
  have d8_0_1 := B8_0.cell 1 rfl
  have e8_0_1 := B8_0.free 1
  have d8_0_2 := B8_0.cell 2 rfl
  have e8_0_2 := B8_0.free 2
  have d8_0_3 := B8_0.cell 3 rfl
  have e8_0_3 := B8_0.free 3
  have t8_1 := B8_1.lt
  have d8_1_0 := B8_1.cell 0 rfl
  have e8_1_0 := B8_1.free 0
  have d8_1_1 := B8_1.cell 1 rfl
  have e8_1_1 := B8_1.free 1
  have g8_0_0 := fun m os => (B8_0.grow m os).cell 0 rfl
  have g8_0_1 := fun m os => (B8_0.grow m os).cell 1 rfl
  have g8_0_2 := fun m os => (B8_0.grow m os).cell 2 rfl
  have g8_0_3 := fun m os => (B8_0.grow m os).cell 3 rfl
  have g8_1_0 := fun m os => (B8_1.grow m os).cell 0 rfl
  have g8_1_1 := fun m os => (B8_1.grow m os).cell 1 rfl
  refine wp_region_calm (by kernel_rfl) (by kernel_rfl) ?_
  repeat (first | (refine lex_skip rfl (by rfl) ?_) | (refine lex_calm rfl (by rfl) (fun K hK => ?_); go_simp; first | (refine hK _ ?_; clear hK K) | (apply Exists.intro; refine ⟨fun _ _ => ?_, hK _ ?_⟩; (first | (with_reducible exact (K6 _).out) | (with_reducible exact (K7 _).out) | (with_reducible exact (K8 _).out) | (with_reducible exact (K9 _).out)); clear hK K)))
  refine lex_nil ?_
  intro w9 G9
  have B9_0 : Blk w9 (w5.heap.size) 24 [.int .i64 1, .int .i64 5, .string ⟨#[]⟩, .slice none 0 0] := B8_0.grew G9
  have B9_1 : Blk w9 (w7.heap.size) 28 [.int .i64 1, .slice none 0 0] := B8_1.grew G9
  have z9 := G9.size
  replace G9 := hide G9
  have t9_0 := B9_0.lt
  have d9_0_0 := B9_0.cell 0 rfl
  have e9_0_0 := B9_0.free 0
  have d9_0_1 := B9_0.cell 1 rfl
  have e9_0_1 := B9_0.free 1
  have d9_0_2 := B9_0.cell 2 rfl
  have e9_0_2 := B9_0.free 2
  have d9_0_3 := B9_0.cell 3 rfl
  have e9_0_3 := B9_0.free 3
  have t9_1 := B9_1.lt
  have d9_1_0 := B9_1.cell 0 rfl
  have e9_1_0 := B9_1.free 0
  have d9_1_1 := B9_1.cell 1 rfl
  have e9_1_1 := B9_1.free 1
  go_wp2
  go_ret
  refine ⟨rfl, ?_⟩
  repeat' (first | (with_reducible exact Grew.refl _) | (with_reducible refine Grew.setCell ?_ ?_ _) | (with_reducible refine Grew.drewN ?_ _) | (with_reducible refine Grew.reD ?_ _) | (with_reducible refine Grew.alloc ?_ _) | (with_reducible refine Grew.trans ?_ G9.out) | (with_reducible refine Grew.trans ?_ G8.out) | (with_reducible refine Grew.trans ?_ G7.out) | (with_reducible refine Grew.trans ?_ G6.out) | (with_reducible refine Grew.trans ?_ G5.out) | (with_reducible refine Grew.trans ?_ G4.out) | (with_reducible refine Grew.trans ?_ G3.out) | (with_reducible refine Grew.trans ?_ G2.out) | (with_reducible refine Grew.trans ?_ G1.out) | (dsimp only; omega))
end Go.Proofs.YtnhhmndnmkkhlaaDoor
