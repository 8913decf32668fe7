/- apply and operate at two values that are no lists and no texts. -/
import Derived.Test.YtnhhmndnmkkhlaaDoorExI
namespace Go.Proofs.YtnhhmndnmkkhlaaDoor
open Go.RowKit Go.Sort
set_option linter.unusedVariables false
set_option linter.unusedSimpArgs false

theorem cell_gr {w : World} {b o : Nat} {v : Value} (hb : b < w.heap.size) (h : w.cell? ⟨b, o, none⟩ = some v) (m : Nat) (os : Array Obj) : (Go.Sort.grow (reD w m) os).cell? ⟨b, o, none⟩ = some v :=
  ((((Grew.refl w).reD m).grow os).cell b o hb).trans h
/-- What apply returns for two ints: kind, number, error. -/
def apR (op a b : Int) : Int × Int × Int := if op = 10 then (2, if a < b then 1 else 0, 0) else (1, (calR op a b).1, (calR op a b).2)

set_option maxHeartbeats 4000000 in
theorem apply_five (op a b : Int) (p : Option Addr) (c : Nat) (w : World) (hop : Op5 op) (ha : Sm a) (hb : Sm b) (h : Two w p 1 a 1 b) :
    Calls Tryd.prog 70 #[.int .i64 op, .slice p 2 c] w fun e w' => e = .returned (.tuple #[nv 1 (calR op a b).1, .int .i64 (calR op a b).2]) ∧ Grew w w' := by
  have KA := fun W => hide (calculate_any op a b W hop ha hb)
  have KB := fun W => hide (integer_any (calR op a b).1 W)
  generalize (calR op a b).1 = r1 at *
  generalize (calR op a b).2 = r2 at *
  obtain ⟨bb, off, rfl, hbl, ⟨x0, x1, -, -⟩, y0, y1, -, -⟩ := h
  clear ha hb
  rcases hop with rfl | rfl | rfl | rfl | rfl
  all_goals
    go_enter Tryd.func70, Tryd.ntmps70
    go_wp2_with fail
    refine name_world fun w1 h1 => ?_
    have G1 : Grew w w1 := by
      rw [h1]
      repeat' (first | (with_reducible exact Grew.refl _) | (with_reducible refine Grew.setCell ?_ ?_ _) | (with_reducible refine Grew.drewN ?_ _) | (with_reducible refine Grew.reD ?_ _) | (with_reducible refine Grew.alloc ?_ _) | (with_reducible refine Grew.trans ?_ G1.out) | (dsimp only; omega))
    have B1_0 : Blk w1 (w.heap.size) 24 [.int .i64 0, .int .i64 0, .string ⟨#[]⟩, .slice none 0 0] := by (rw [h1]; repeat' (first | (with_reducible assumption) | ((with_reducible refine Blk.new ?_); (first | (with_reducible rfl) | (simp only [World.size_alloc, World.size_setCell, size_drewN]; done))) | (with_reducible refine Blk.alloc ?_ _) | (with_reducible refine Blk.drewN ?_ _) | (with_reducible refine Blk.drew ?_) | (refine Blk.other ?_ (by omega) _) | fail))
    have z1 := G1.size
    replace G1 := hide G1
    clear h1
    have t1_0 := B1_0.lt
    have d1_0_0 := B1_0.cell 0 rfl
    have e1_0_0 := B1_0.free 0
    have d1_0_1 := B1_0.cell 1 rfl
    have e1_0_1 := B1_0.free 1
    have d1_0_2 := B1_0.cell 2 rfl
    have e1_0_2 := B1_0.free 2
    have d1_0_3 := B1_0.cell 3 rfl
    have e1_0_3 := B1_0.free 3
    have hbl1 : bb < w1.heap.size := Nat.lt_of_lt_of_le hbl z1
    have u1 := cell_gr hbl1 ((G1.out.cell bb _ hbl).trans x1)
    have u2 := cell_gr hbl1 ((G1.out.cell bb _ hbl).trans y1)
    clear x0 x1 y0 y1
    have g1_0_0 := fun m os => (B1_0.grow m os).cell 0 rfl
    have g1_0_1 := fun m os => (B1_0.grow m os).cell 1 rfl
    have g1_0_2 := fun m os => (B1_0.grow m os).cell 2 rfl
    have g1_0_3 := fun m os => (B1_0.grow m os).cell 3 rfl
    refine wp_region_calm (by kernel_rfl) (by kernel_rfl) ?_
    repeat (first | (refine lex_skip rfl (by rfl) ?_) | (refine lex_calm rfl (by rfl) (fun K hK => ?_); go_simp; first | (refine hK _ ?_; clear hK K) | (apply Exists.intro; refine ⟨fun _ _ => ?_, hK _ ?_⟩; (with_reducible exact (KA _).out); clear hK K)))
    refine lex_nil ?_
    intro w2 G2
    have B2_0 : Blk w2 (w.heap.size) 24 [.int .i64 0, .int .i64 0, .string ⟨#[]⟩, .slice none 0 0] := B1_0.grew G2
    have z2 := G2.size
    replace G2 := hide G2
    have t2_0 := B2_0.lt
    have d2_0_0 := B2_0.cell 0 rfl
    have e2_0_0 := B2_0.free 0
    have d2_0_1 := B2_0.cell 1 rfl
    have e2_0_1 := B2_0.free 1
    have d2_0_2 := B2_0.cell 2 rfl
    have e2_0_2 := B2_0.free 2
    have d2_0_3 := B2_0.cell 3 rfl
    have e2_0_3 := B2_0.free 3
    go_wp2_with fail
    refine ((KB _).out).mono ?_
    rintro e w3 ⟨rfl, G3⟩
    try (with_reducible replace G3 := Grew.undrawn G3)
    have B3_0 : Blk w3 (w.heap.size) 24 [.int .i64 0, .int .i64 0, .string ⟨#[]⟩, .slice none 0 0] := Blk.grew (by (repeat' (first | (with_reducible assumption) | ((with_reducible refine Blk.new ?_); (first | (with_reducible rfl) | (simp only [World.size_alloc, World.size_setCell, size_drewN]; done))) | (with_reducible refine Blk.alloc ?_ _) | (with_reducible refine Blk.drewN ?_ _) | (with_reducible refine Blk.drew ?_) | (refine Blk.other ?_ (by omega) _) | fail))) G3
    have z3 := G3.size
    try simp only [World.size_alloc, World.size_setCell, size_drewN] at z3
    replace G3 := hide G3
    have t3_0 := B3_0.lt
    have d3_0_0 := B3_0.cell 0 rfl
    have e3_0_0 := B3_0.free 0
    have d3_0_1 := B3_0.cell 1 rfl
    have e3_0_1 := B3_0.free 1
    have d3_0_2 := B3_0.cell 2 rfl
    have e3_0_2 := B3_0.free 2
    have d3_0_3 := B3_0.cell 3 rfl
    have e3_0_3 := B3_0.free 3
    go_wp2
    refine name_bp fun wq hq => ?_
    have Gq : Grew w wq := by
      rw [hq]
      repeat' (first | (with_reducible exact Grew.refl _) | (with_reducible refine Grew.setCell ?_ ?_ _) | (with_reducible refine Grew.alloc ?_ _) | (with_reducible refine Grew.trans ?_ G3.out) | (with_reducible refine Grew.trans ?_ G2.out) | (with_reducible refine Grew.trans ?_ G1.out) | (dsimp only; omega))
    have Bq : Blk wq (w.heap.size) 24 [.int .i64 1, .int .i64 r1, .string ⟨#[]⟩, .slice none 0 0] := by
      rw [hq]; exact (Blk.set' (Blk.set' (Blk.set' (Blk.set' B3_0 0 _ rfl) 1 _ rfl) 2 _ rfl) 3 _ rfl)
    have q0 := Bq.cell 0 rfl
    have q1 := Bq.cell 1 rfl
    have q2 := Bq.cell 2 rfl
    have q3 := Bq.cell 3 rfl
    refine bodyPost_ret (v := .tuple #[nv 1 r1, .int .i64 r2]) (by simp [results, Tryd.results70, go_sem, q0, q1, q2, q3]) rfl ⟨rfl, Gq⟩

end Go.Proofs.YtnhhmndnmkkhlaaDoor
