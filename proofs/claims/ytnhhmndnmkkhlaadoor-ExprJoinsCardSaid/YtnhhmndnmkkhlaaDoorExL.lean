/- eval at ints, bools, variables and operators of two ints: rules that put a tree's value together. -/
import Derived.Test.YtnhhmndnmkkhlaaDoorExK
import Derived.Test.YtnhhmndnmkkhlaaDoorExV
import Derived.Test.YtnhhmndnmkkhlaaDoorExG
namespace Go.Proofs.YtnhhmndnmkkhlaaDoor
open Go.RowKit Go.Sort
set_option linter.unusedVariables false
set_option linter.unusedSimpArgs false

/-- A tree has this value (error, kind, number) in every world that keeps what lies below B. -/
def Evs (w0 : World) (B : Nat) (pe : Option Addr) (me ce : Nat) (d : Nd) (r : Int × Int × Int) : Prop :=
  ∀ w, Below B w0 w → Calls Tryd.prog 45 #[.agg #[.slice pe me ce], d.v] w fun e w' => e = .returned (.tuple #[nv r.2.1 r.2.2, .int .i64 r.1]) ∧ Grew w w'

set_option maxHeartbeats 4000000 in
theorem Evs.int {w0 : World} {B : Nat} {pe : Option Addr} {me ce : Nat} {n : Int} {s : ByteArray} {m c : Nat} {p : Option Addr} : Evs w0 B pe me ce ⟨1, n, s, m, p, c⟩ (0, 1, n) := by
  intro w hB
  have KA := fun W => hide (integer_any n W)
  clear hB
  go_enter Tryd.func45, Tryd.ntmps45
  go_wp2_with fail
  refine ((KA _).out).mono ?_
  rintro e w1 ⟨rfl, G1⟩
  try (with_reducible replace G1 := Grew.undrawn G1)
  have B1_0 : Blk w1 (w.heap.size) 82 [.slice pe me ce] := Blk.grew (by (repeat' (first | (with_reducible assumption) | ((with_reducible refine Blk.new ?_); (first | (with_reducible rfl) | (simp only [World.size_alloc, World.size_setCell, size_drewN]; done))) | (with_reducible refine Blk.alloc ?_ _) | (with_reducible refine Blk.drewN ?_ _) | (with_reducible refine Blk.drew ?_) | (refine Blk.other ?_ (by omega) _) | fail))) G1
  have B1_1 : Blk w1 (w.heap.size + 1) 58 [.int .i64 1, .int .i64 n, .string s, .slice p m c] := Blk.grew (by (repeat' (first | (with_reducible assumption) | ((with_reducible refine Blk.new ?_); (first | (with_reducible rfl) | (simp only [World.size_alloc, World.size_setCell, size_drewN]; done))) | (with_reducible refine Blk.alloc ?_ _) | (with_reducible refine Blk.drewN ?_ _) | (with_reducible refine Blk.drew ?_) | (refine Blk.other ?_ (by omega) _) | fail))) G1
  have B1_2 : Blk w1 (w.heap.size + 1 + 1) 24 [.int .i64 0, .int .i64 0, .string ⟨#[]⟩, .slice none 0 0] := Blk.grew (by (repeat' (first | (with_reducible assumption) | ((with_reducible refine Blk.new ?_); (first | (with_reducible rfl) | (simp only [World.size_alloc, World.size_setCell, size_drewN]; done))) | (with_reducible refine Blk.alloc ?_ _) | (with_reducible refine Blk.drewN ?_ _) | (with_reducible refine Blk.drew ?_) | (refine Blk.other ?_ (by omega) _) | fail))) G1
  have z1 := G1.size
  try simp only [World.size_alloc, World.size_setCell, size_drewN] at z1
  replace G1 := hide G1
  have t1_0 := B1_0.lt
  have d1_0_0 := B1_0.cell 0 rfl
  have e1_0_0 := B1_0.free 0
  have t1_1 := B1_1.lt
  have d1_1_0 := B1_1.cell 0 rfl
  have e1_1_0 := B1_1.free 0
  have d1_1_1 := B1_1.cell 1 rfl
  have e1_1_1 := B1_1.free 1
  have d1_1_2 := B1_1.cell 2 rfl
  have e1_1_2 := B1_1.free 2
  have d1_1_3 := B1_1.cell 3 rfl
  have e1_1_3 := B1_1.free 3
  have t1_2 := B1_2.lt
  have d1_2_0 := B1_2.cell 0 rfl
  have e1_2_0 := B1_2.free 0
  have d1_2_1 := B1_2.cell 1 rfl
  have e1_2_1 := B1_2.free 1
  have d1_2_2 := B1_2.cell 2 rfl
  have e1_2_2 := B1_2.free 2
  have d1_2_3 := B1_2.cell 3 rfl
  have e1_2_3 := B1_2.free 3
  go_wp2
  refine name_bp fun wq hq => ?_
  have Gq : Grew w wq := by
    rw [hq]
    repeat' (first | (with_reducible exact Grew.refl _) | (with_reducible refine Grew.setCell ?_ ?_ _) | (with_reducible refine Grew.alloc ?_ _) | (with_reducible refine Grew.trans ?_ G1.out) | (dsimp only; omega))
  have Bq : Blk wq (w.heap.size + 1 + 1) 24 [.int .i64 1, .int .i64 n, .string ⟨#[]⟩, .slice none 0 0] := by
    rw [hq]; exact (Blk.set' (Blk.set' (Blk.set' (Blk.set' B1_2 0 _ rfl) 1 _ rfl) 2 _ rfl) 3 _ rfl)
  have q0 := Bq.cell 0 rfl
  have q1 := Bq.cell 1 rfl
  have q2 := Bq.cell 2 rfl
  have q3 := Bq.cell 3 rfl
  refine bodyPost_ret (v := .tuple #[nv 1 n, .int .i64 0]) (by simp [results, Tryd.results45, go_sem, q0, q1, q2, q3]) rfl ⟨rfl, Gq⟩
set_option maxHeartbeats 4000000 in
theorem Evs.bool {w0 : World} {B : Nat} {pe : Option Addr} {me ce : Nat} {n : Int} {s : ByteArray} {m c : Nat} {p : Option Addr} (hn : n = 0 ∨ n = 1) : Evs w0 B pe me ce ⟨2, n, s, m, p, c⟩ (0, 2, n) := by
  intro w hB
  have KA := fun W => hide (truth_any (n == 1) W)
  have e : (if (n == 1) = true then (1 : Int) else 0) = n := by rcases hn with rfl | rfl <;> rfl
  rw [e] at KA
  clear hB e hn
  go_enter Tryd.func45, Tryd.ntmps45
  go_wp2_with fail
  refine ((KA _).out).mono ?_
  rintro e w1 ⟨rfl, G1⟩
  try (with_reducible replace G1 := Grew.undrawn G1)
  have B1_0 : Blk w1 (w.heap.size) 82 [.slice pe me ce] := Blk.grew (by (repeat' (first | (with_reducible assumption) | ((with_reducible refine Blk.new ?_); (first | (with_reducible rfl) | (simp only [World.size_alloc, World.size_setCell, size_drewN]; done))) | (with_reducible refine Blk.alloc ?_ _) | (with_reducible refine Blk.drewN ?_ _) | (with_reducible refine Blk.drew ?_) | (refine Blk.other ?_ (by omega) _) | fail))) G1
  have B1_1 : Blk w1 (w.heap.size + 1) 58 [.int .i64 2, .int .i64 n, .string s, .slice p m c] := Blk.grew (by (repeat' (first | (with_reducible assumption) | ((with_reducible refine Blk.new ?_); (first | (with_reducible rfl) | (simp only [World.size_alloc, World.size_setCell, size_drewN]; done))) | (with_reducible refine Blk.alloc ?_ _) | (with_reducible refine Blk.drewN ?_ _) | (with_reducible refine Blk.drew ?_) | (refine Blk.other ?_ (by omega) _) | fail))) G1
  have B1_2 : Blk w1 (w.heap.size + 1 + 1) 24 [.int .i64 0, .int .i64 0, .string ⟨#[]⟩, .slice none 0 0] := Blk.grew (by (repeat' (first | (with_reducible assumption) | ((with_reducible refine Blk.new ?_); (first | (with_reducible rfl) | (simp only [World.size_alloc, World.size_setCell, size_drewN]; done))) | (with_reducible refine Blk.alloc ?_ _) | (with_reducible refine Blk.drewN ?_ _) | (with_reducible refine Blk.drew ?_) | (refine Blk.other ?_ (by omega) _) | fail))) G1
  have z1 := G1.size
  try simp only [World.size_alloc, World.size_setCell, size_drewN] at z1
  replace G1 := hide G1
  have t1_0 := B1_0.lt
  have d1_0_0 := B1_0.cell 0 rfl
  have e1_0_0 := B1_0.free 0
  have t1_1 := B1_1.lt
  have d1_1_0 := B1_1.cell 0 rfl
  have e1_1_0 := B1_1.free 0
  have d1_1_1 := B1_1.cell 1 rfl
  have e1_1_1 := B1_1.free 1
  have d1_1_2 := B1_1.cell 2 rfl
  have e1_1_2 := B1_1.free 2
  have d1_1_3 := B1_1.cell 3 rfl
  have e1_1_3 := B1_1.free 3
  have t1_2 := B1_2.lt
  have d1_2_0 := B1_2.cell 0 rfl
  have e1_2_0 := B1_2.free 0
  have d1_2_1 := B1_2.cell 1 rfl
  have e1_2_1 := B1_2.free 1
  have d1_2_2 := B1_2.cell 2 rfl
  have e1_2_2 := B1_2.free 2
  have d1_2_3 := B1_2.cell 3 rfl
  have e1_2_3 := B1_2.free 3
  go_wp2
  refine name_bp fun wq hq => ?_
  have Gq : Grew w wq := by
    rw [hq]
    repeat' (first | (with_reducible exact Grew.refl _) | (with_reducible refine Grew.setCell ?_ ?_ _) | (with_reducible refine Grew.alloc ?_ _) | (with_reducible refine Grew.trans ?_ G1.out) | (dsimp only; omega))
  have Bq : Blk wq (w.heap.size + 1 + 1) 24 [.int .i64 2, .int .i64 n, .string ⟨#[]⟩, .slice none 0 0] := by
    rw [hq]; exact (Blk.set' (Blk.set' (Blk.set' (Blk.set' B1_2 0 _ rfl) 1 _ rfl) 2 _ rfl) 3 _ rfl)
  have q0 := Bq.cell 0 rfl
  have q1 := Bq.cell 1 rfl
  have q2 := Bq.cell 2 rfl
  have q3 := Bq.cell 3 rfl
  refine bodyPost_ret (v := .tuple #[nv 2 n, .int .i64 0]) (by simp [results, Tryd.results45, go_sem, q0, q1, q2, q3]) rfl ⟨rfl, Gq⟩
set_option maxHeartbeats 4000000 in
theorem Evs.var {w0 : World} {B : Nat} {pe : Option Addr} {me ce : Nat} {n k1 n1 : Int} {s : ByteArray} {m c : Nat} {p : Option Addr} {g : Nat → Bd} (hm : me ≤ 1000000) (hL : BRow w0 B pe me g) (hB0 : B ≤ w0.heap.size)
    (hl : lkF g s me = some ⟨k1, n1, ⟨#[]⟩, 0, none, 0⟩) : Evs w0 B pe me ce ⟨4, n, s, m, p, c⟩ (0, k1, n1) := by
  intro w hB
  have KA := fun W hW => hide (variable_any pe me ce g s hm W hW)
  rw [hl] at KA
  have HB := hide hB
  have HL := hide ((hL.below hB).mono (Nat.le_trans hB0 hB.size))
  clear hB hL
  go_enter Tryd.func45, Tryd.ntmps45
  go_wp2_with fail
  refine name_calls fun w1 h1 => ?_
  have G1 : Grew w w1 := by rw [h1]; exact (((Grew.refl _).alloc _).alloc _).alloc _
  have b2 : Blk w1 (w.heap.size + 1 + 1) 24 [.int .i64 0, .int .i64 0, .string ⟨#[]⟩, .slice none 0 0] := by
    rw [h1]; repeat' (first | (with_reducible assumption) | ((with_reducible refine Blk.new ?_); (first | (with_reducible rfl) | (simp only [World.size_alloc, World.size_setCell, size_drewN]; done))) | (with_reducible refine Blk.alloc ?_ _) | (refine Blk.other ?_ (by omega) _) | fail)
  clear h1
  refine ((KA w1 ((HL.out.below G1.1).mono G1.size)).out).mono ?_
  rintro e w2 ⟨rfl, G2⟩
  have B2_0 := b2.grew G2
  have G3 := G1.trans G2
  dsimp only [vrR]
  have d0 := B2_0.cell 0 rfl
  have d1 := B2_0.cell 1 rfl
  have d2 := B2_0.cell 2 rfl
  have d3 := B2_0.cell 3 rfl
  have f0 := B2_0.free 0
  have f1 := B2_0.free 1
  have f2 := B2_0.free 2
  have f3 := B2_0.free 3
  have hlt := B2_0.lt
  clear b2 G1 G2 KA
  go_wp2
  refine name_bp fun wq hq => ?_
  have Gq : Grew w wq := by
    rw [hq]
    repeat' (first | (with_reducible exact G3) | (with_reducible refine Grew.setCell ?_ ?_ _) | (with_reducible refine Grew.alloc ?_ _) | (dsimp only; omega))
  have Bq : Blk wq (w.heap.size + 1 + 1) 24 [.int .i64 k1, .int .i64 n1, .string ⟨#[]⟩, .slice none 0 0] := by
    rw [hq]
    repeat (with_reducible refine Blk.alloc ?_ _)
    exact (Blk.set' (Blk.set' (Blk.set' (Blk.set' B2_0 0 _ rfl) 1 _ rfl) 2 _ rfl) 3 _ rfl)
  have q0 := Bq.cell 0 rfl
  have q1 := Bq.cell 1 rfl
  have q2 := Bq.cell 2 rfl
  have q3 := Bq.cell 3 rfl
  refine bodyPost_ret (v := .tuple #[nv k1 n1, .int .i64 0]) (by simp [results, Tryd.results45, go_sem, q0, q1, q2, q3]) rfl ⟨rfl, Gq⟩
end Go.Proofs.YtnhhmndnmkkhlaaDoor
