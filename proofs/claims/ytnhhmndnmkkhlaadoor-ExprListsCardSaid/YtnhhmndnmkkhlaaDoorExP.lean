/- eval at 'and', 'or', 'if' where the first operand decides, and at 'and' whose second operand has an error. -/
import Derived.Test.YtnhhmndnmkkhlaaDoorExT
import Derived.Test.YtnhhmndnmkkhlaaDoorExSA
namespace Go.Proofs.YtnhhmndnmkkhlaaDoor
open Go.RowKit Go.Sort
set_option linter.unusedVariables false
set_option linter.unusedSimpArgs false
set_option maxRecDepth 20000

/-- What decide returns for a tree, in every world that keeps what lies below B. -/
def Ds (w0 : World) (B : Nat) (pe : Option Addr) (me ce : Nat) (d : Nd) (r : Int × Int × Int) : Prop :=
  ∀ w, Below B w0 w → Calls Tryd.prog 59 #[.agg #[.slice pe me ce], d.v] w fun e w' => e = .returned (.tuple #[nv r.2.1 r.2.2, .int .i64 r.1]) ∧ Grew w w'
set_option maxHeartbeats 4000000 in
theorem Ds.and_no {w0 : World} {B : Nat} {pe : Option Addr} {me ce : Nat} {s : ByteArray} {c : Nat} {p : Option Addr} {f : Nat → Nd} (hr : Row w0 B p 2 f) (hB0 : B ≤ w0.heap.size) (h0 : Evs w0 B pe me ce (f 0) (0, 2, 0)) : Ds w0 B pe me ce ⟨13, 0, s, 2, p, c⟩ (0, 2, 0) := by
  intro w hB
  have HB := hide hB
  have HR := hide (hr.below hB)
  have BB : Hid (∀ W, Grew w W → Below B w0 W) := hide fun W g => Grew.to HB.out g hB0
  have hBs : B ≤ w.heap.size := Nat.le_trans hB0 hB.size
  have K0 := fun W hW => hide (h0 W hW)
  clear hB hr h0
  obtain ⟨bb, off, rfl, hbl, hcs⟩ := HR.out (by omega)
  obtain ⟨x0, x1, x2, x3⟩ := hcs 0 (by omega)
  simp only [Nat.zero_mul, Nat.add_zero] at x0 x1 x2 x3
  have hbl1 : bb < w.heap.size := Nat.lt_of_lt_of_le hbl hBs
  generalize f 0 = x at *
  obtain ⟨xk, xn, xs, xm, xp, xc⟩ := x
  dsimp only at x0 x1 x2 x3 K0
  go_enter Tryd.func59, Tryd.ntmps59
  go_wp2_with fail
  refine name_world fun w1 h1 => ?_
  have G1 : Grew w w1 := by
    rw [h1]
    repeat' (first | (with_reducible exact Grew.refl _) | (with_reducible refine Grew.setCell ?_ ?_ _) | (with_reducible refine Grew.drewN ?_ _) | (with_reducible refine Grew.reD ?_ _) | (with_reducible refine Grew.alloc ?_ _) | (with_reducible refine Grew.trans ?_ G1.out) | (dsimp only; omega))
  have B1_0 : Blk w1 (w.heap.size) 82 [.slice pe me ce] := by (rw [h1]; repeat' (first | (with_reducible assumption) | ((with_reducible refine Blk.new ?_); (first | (with_reducible rfl) | (simp only [World.size_alloc, World.size_setCell, size_drewN]; done))) | (with_reducible refine Blk.alloc ?_ _) | (with_reducible refine Blk.drewN ?_ _) | (with_reducible refine Blk.drew ?_) | (refine Blk.other ?_ (by omega) _) | fail))
  have B1_1 : Blk w1 (w.heap.size + 1) 58 [.int .i64 13, .int .i64 0, .string s, .slice (some ⟨bb, off, none⟩) 2 c] := by (rw [h1]; repeat' (first | (with_reducible assumption) | ((with_reducible refine Blk.new ?_); (first | (with_reducible rfl) | (simp only [World.size_alloc, World.size_setCell, size_drewN]; done))) | (with_reducible refine Blk.alloc ?_ _) | (with_reducible refine Blk.drewN ?_ _) | (with_reducible refine Blk.drew ?_) | (refine Blk.other ?_ (by omega) _) | fail))
  have B1_2 : Blk w1 (w.heap.size + 1 + 1) 24 [.int .i64 0, .int .i64 0, .string ⟨#[]⟩, .slice none 0 0] := by (rw [h1]; repeat' (first | (with_reducible assumption) | ((with_reducible refine Blk.new ?_); (first | (with_reducible rfl) | (simp only [World.size_alloc, World.size_setCell, size_drewN]; done))) | (with_reducible refine Blk.alloc ?_ _) | (with_reducible refine Blk.drewN ?_ _) | (with_reducible refine Blk.drew ?_) | (refine Blk.other ?_ (by omega) _) | fail))
  have z1 := G1.size
  replace G1 := hide G1
  clear h1
  have t1_0 := B1_0.lt
  have d1_0_0 := B1_0.cell 0 rfl
  have e1_0_0 := B1_0.free 0
  have t1_1 := B1_1.lt
  have d1_1_0 := B1_1.cell 0 rfl
  have e1_1_0 := B1_1.free 0
  have d1_1_1 := B1_1.cell 1 rfl
  have e1_1_1 := B1_1.free 1
  have d1_1_2 := B1_1.cell 2 rfl
  have e1_1_2 := B1_1.free 2
  have d1_1_3 := B1_1.cell 3 rfl
  have e1_1_3 := B1_1.free 3
  have t1_2 := B1_2.lt
  have d1_2_0 := B1_2.cell 0 rfl
  have e1_2_0 := B1_2.free 0
  have d1_2_1 := B1_2.cell 1 rfl
  have e1_2_1 := B1_2.free 1
  have d1_2_2 := B1_2.cell 2 rfl
  have e1_2_2 := B1_2.free 2
  have d1_2_3 := B1_2.cell 3 rfl
  have e1_2_3 := B1_2.free 3
  have hbl2 : bb < w1.heap.size := Nat.lt_of_lt_of_le hbl1 z1
  have u0 := cell_gr hbl2 ((G1.out.cell bb _ hbl1).trans x0)
  have u1 := cell_gr hbl2 ((G1.out.cell bb _ hbl1).trans x1)
  have u2 := cell_gr hbl2 ((G1.out.cell bb _ hbl1).trans x2)
  have u3 := cell_gr hbl2 ((G1.out.cell bb _ hbl1).trans x3)
  have BBg : ∀ n os, Below B w0 (Go.Sort.grow (reD w1 n) os) := fun n os => BB.out _ (G1.out.trans (((Grew.refl w1).reD n).grow os))
  clear x0 x1 x2 x3
  have g1_0_0 := fun m os => (B1_0.grow m os).cell 0 rfl
  have g1_1_0 := fun m os => (B1_1.grow m os).cell 0 rfl
  have g1_1_1 := fun m os => (B1_1.grow m os).cell 1 rfl
  have g1_1_2 := fun m os => (B1_1.grow m os).cell 2 rfl
  have g1_1_3 := fun m os => (B1_1.grow m os).cell 3 rfl
  have g1_2_0 := fun m os => (B1_2.grow m os).cell 0 rfl
  have g1_2_1 := fun m os => (B1_2.grow m os).cell 1 rfl
  have g1_2_2 := fun m os => (B1_2.grow m os).cell 2 rfl
  have g1_2_3 := fun m os => (B1_2.grow m os).cell 3 rfl
  refine wp_region_made [⟨9, 10, 6, 24, [.int .i64 0, .int .i64 0, .string ⟨#[]⟩, .slice none 0 0], [.int .i64 2, .int .i64 0, .string ⟨#[]⟩, .slice none 0 0]⟩] (by kernel_rfl) (by kernel_rfl) (by simp [madeSlots]) ?_
  repeat (first | (refine lex_skip rfl (by rfl) ?_) | (refine lex_calm rfl (by rfl) (fun K hK => ?_); go_simp; first | (refine hK _ ?_; clear hK K) | (apply Exists.intro; refine ⟨fun _ _ => ?_, hK _ ?_⟩; (with_reducible exact (K0 _ (BBg _ _)).out); clear hK K)))
  refine lex_alloc (m := ⟨9, 10, 6, 24, [.int .i64 0, .int .i64 0, .string ⟨#[]⟩, .slice none 0 0], [.int .i64 2, .int .i64 0, .string ⟨#[]⟩, .slice none 0 0]⟩) (by kernel_rfl) (by simp) (by rfl) rfl ?_ ?_
  · intro ev w
    go_simp
  repeat (first | (refine lex_skip rfl (by rfl) ?_) | (refine lex_calm rfl (by rfl) (fun K hK => ?_); go_simp; first | (refine hK _ ?_; clear hK K) | (apply Exists.intro; refine ⟨fun _ _ => ?_, hK _ ?_⟩; (with_reducible exact (K0 _ (BBg _ _)).out); clear hK K)))
  refine lex_store (m := ⟨9, 10, 6, 24, [.int .i64 0, .int .i64 0, .string ⟨#[]⟩, .slice none 0 0], [.int .i64 2, .int .i64 0, .string ⟨#[]⟩, .slice none 0 0]⟩) (by kernel_rfl) (by simp) (by rfl) rfl ?_ ?_
  · intro vs w b hv hB
    have d0 := hB.cell 0 rfl
    have e0 := hB.free 0
    have d1 := hB.cell 1 rfl
    have e1 := hB.free 1
    have d2 := hB.cell 2 rfl
    have e2 := hB.free 2
    have d3 := hB.cell 3 rfl
    have e3 := hB.free 3
    simp only [] at hv
    simp [go_sem, evS, madeSlots, List.lookup, setAll, *]
  repeat (first | (refine lex_skip rfl (by rfl) ?_) | (refine lex_calm rfl (by rfl) (fun K hK => ?_); go_simp; first | (refine hK _ ?_; clear hK K) | (apply Exists.intro; refine ⟨fun _ _ => ?_, hK _ ?_⟩; (with_reducible exact (K0 _ (BBg _ _)).out); clear hK K)))
  refine lex_nil ?_
  rintro vs w2 ⟨G2, hb, hne⟩
  obtain ⟨b2_0, hv0, s2_0, K2_0⟩ := hb ⟨9, 10, 6, 24, [.int .i64 0, .int .i64 0, .string ⟨#[]⟩, .slice none 0 0], [.int .i64 2, .int .i64 0, .string ⟨#[]⟩, .slice none 0 0]⟩ (by simp) rfl
  simp only [fillS, madeSlots, List.map_cons, List.map_nil, List.foldl_cons, List.foldl_nil, hv0]
  clear hb hne hv0 vs
  have B2_0 : Blk w2 (w.heap.size) 82 [.slice pe me ce] := B1_0.grew G2
  have B2_1 : Blk w2 (w.heap.size + 1) 58 [.int .i64 13, .int .i64 0, .string s, .slice (some ⟨bb, off, none⟩) 2 c] := B1_1.grew G2
  have B2_2 : Blk w2 (w.heap.size + 1 + 1) 24 [.int .i64 0, .int .i64 0, .string ⟨#[]⟩, .slice none 0 0] := B1_2.grew G2
  have B2_3 : Blk w2 b2_0 24 [.int .i64 2, .int .i64 0, .string ⟨#[]⟩, .slice none 0 0] := K2_0
  clear K2_0
  have z2 := G2.size
  replace G2 := hide G2
  have t2_0 := B2_0.lt
  have d2_0_0 := B2_0.cell 0 rfl
  have e2_0_0 := B2_0.free 0
  have t2_1 := B2_1.lt
  have d2_1_0 := B2_1.cell 0 rfl
  have e2_1_0 := B2_1.free 0
  have d2_1_1 := B2_1.cell 1 rfl
  have e2_1_1 := B2_1.free 1
  have d2_1_2 := B2_1.cell 2 rfl
  have e2_1_2 := B2_1.free 2
  have d2_1_3 := B2_1.cell 3 rfl
  have e2_1_3 := B2_1.free 3
  have t2_2 := B2_2.lt
  have d2_2_0 := B2_2.cell 0 rfl
  have e2_2_0 := B2_2.free 0
  have d2_2_1 := B2_2.cell 1 rfl
  have e2_2_1 := B2_2.free 1
  have d2_2_2 := B2_2.cell 2 rfl
  have e2_2_2 := B2_2.free 2
  have d2_2_3 := B2_2.cell 3 rfl
  have e2_2_3 := B2_2.free 3
  have t2_3 := B2_3.lt
  have d2_3_0 := B2_3.cell 0 rfl
  have e2_3_0 := B2_3.free 0
  have d2_3_1 := B2_3.cell 1 rfl
  have e2_3_1 := B2_3.free 1
  have d2_3_2 := B2_3.cell 2 rfl
  have e2_3_2 := B2_3.free 2
  have d2_3_3 := B2_3.cell 3 rfl
  have e2_3_3 := B2_3.free 3
  go_simp
  go_wp2
  refine name_bp fun wq hq => ?_
  have Gq : Grew w wq := by
    rw [hq]
    repeat' (first | (with_reducible exact Grew.refl _) | (with_reducible refine Grew.setCell ?_ ?_ _) | (with_reducible refine Grew.alloc ?_ _) | (with_reducible refine Grew.trans ?_ G2.out) | (with_reducible refine Grew.trans ?_ G1.out) | (dsimp only; omega))
  have Bq : Blk wq (w.heap.size + 1 + 1) 24 [.int .i64 2, .int .i64 0, .string ⟨#[]⟩, .slice none 0 0] := by
    rw [hq]; exact (Blk.set' (Blk.set' (Blk.set' (Blk.set' B2_2 0 _ rfl) 1 _ rfl) 2 _ rfl) 3 _ rfl)
  have q0 := Bq.cell 0 rfl
  have q1 := Bq.cell 1 rfl
  have q2 := Bq.cell 2 rfl
  have q3 := Bq.cell 3 rfl
  refine bodyPost_ret (v := .tuple #[nv 2 0, .int .i64 0]) (by simp [results, Tryd.results59, go_sem, q0, q1, q2, q3]) rfl ⟨rfl, Gq⟩
set_option maxHeartbeats 4000000 in
theorem Ds.or_yes {w0 : World} {B : Nat} {pe : Option Addr} {me ce : Nat} {s : ByteArray} {c : Nat} {p : Option Addr} {f : Nat → Nd} (hr : Row w0 B p 2 f) (hB0 : B ≤ w0.heap.size) (h0 : Evs w0 B pe me ce (f 0) (0, 2, 1)) : Ds w0 B pe me ce ⟨14, 0, s, 2, p, c⟩ (0, 2, 1) := by
  intro w hB
  have HB := hide hB
  have HR := hide (hr.below hB)
  have BB : Hid (∀ W, Grew w W → Below B w0 W) := hide fun W g => Grew.to HB.out g hB0
  have hBs : B ≤ w.heap.size := Nat.le_trans hB0 hB.size
  have K0 := fun W hW => hide (h0 W hW)
  clear hB hr h0
  obtain ⟨bb, off, rfl, hbl, hcs⟩ := HR.out (by omega)
  obtain ⟨x0, x1, x2, x3⟩ := hcs 0 (by omega)
  simp only [Nat.zero_mul, Nat.add_zero] at x0 x1 x2 x3
  have hbl1 : bb < w.heap.size := Nat.lt_of_lt_of_le hbl hBs
  generalize f 0 = x at *
  obtain ⟨xk, xn, xs, xm, xp, xc⟩ := x
  dsimp only at x0 x1 x2 x3 K0
  go_enter Tryd.func59, Tryd.ntmps59
  go_wp2_with fail
  refine name_world fun w1 h1 => ?_
  have G1 : Grew w w1 := by
    rw [h1]
    repeat' (first | (with_reducible exact Grew.refl _) | (with_reducible refine Grew.setCell ?_ ?_ _) | (with_reducible refine Grew.drewN ?_ _) | (with_reducible refine Grew.reD ?_ _) | (with_reducible refine Grew.alloc ?_ _) | (with_reducible refine Grew.trans ?_ G1.out) | (dsimp only; omega))
  have B1_0 : Blk w1 (w.heap.size) 82 [.slice pe me ce] := by (rw [h1]; repeat' (first | (with_reducible assumption) | ((with_reducible refine Blk.new ?_); (first | (with_reducible rfl) | (simp only [World.size_alloc, World.size_setCell, size_drewN]; done))) | (with_reducible refine Blk.alloc ?_ _) | (with_reducible refine Blk.drewN ?_ _) | (with_reducible refine Blk.drew ?_) | (refine Blk.other ?_ (by omega) _) | fail))
  have B1_1 : Blk w1 (w.heap.size + 1) 58 [.int .i64 14, .int .i64 0, .string s, .slice (some ⟨bb, off, none⟩) 2 c] := by (rw [h1]; repeat' (first | (with_reducible assumption) | ((with_reducible refine Blk.new ?_); (first | (with_reducible rfl) | (simp only [World.size_alloc, World.size_setCell, size_drewN]; done))) | (with_reducible refine Blk.alloc ?_ _) | (with_reducible refine Blk.drewN ?_ _) | (with_reducible refine Blk.drew ?_) | (refine Blk.other ?_ (by omega) _) | fail))
  have B1_2 : Blk w1 (w.heap.size + 1 + 1) 24 [.int .i64 0, .int .i64 0, .string ⟨#[]⟩, .slice none 0 0] := by (rw [h1]; repeat' (first | (with_reducible assumption) | ((with_reducible refine Blk.new ?_); (first | (with_reducible rfl) | (simp only [World.size_alloc, World.size_setCell, size_drewN]; done))) | (with_reducible refine Blk.alloc ?_ _) | (with_reducible refine Blk.drewN ?_ _) | (with_reducible refine Blk.drew ?_) | (refine Blk.other ?_ (by omega) _) | fail))
  have z1 := G1.size
  replace G1 := hide G1
  clear h1
  have t1_0 := B1_0.lt
  have d1_0_0 := B1_0.cell 0 rfl
  have e1_0_0 := B1_0.free 0
  have t1_1 := B1_1.lt
  have d1_1_0 := B1_1.cell 0 rfl
  have e1_1_0 := B1_1.free 0
  have d1_1_1 := B1_1.cell 1 rfl
  have e1_1_1 := B1_1.free 1
  have d1_1_2 := B1_1.cell 2 rfl
  have e1_1_2 := B1_1.free 2
  have d1_1_3 := B1_1.cell 3 rfl
  have e1_1_3 := B1_1.free 3
  have t1_2 := B1_2.lt
  have d1_2_0 := B1_2.cell 0 rfl
  have e1_2_0 := B1_2.free 0
  have d1_2_1 := B1_2.cell 1 rfl
  have e1_2_1 := B1_2.free 1
  have d1_2_2 := B1_2.cell 2 rfl
  have e1_2_2 := B1_2.free 2
  have d1_2_3 := B1_2.cell 3 rfl
  have e1_2_3 := B1_2.free 3
  have hbl2 : bb < w1.heap.size := Nat.lt_of_lt_of_le hbl1 z1
  have u0 := cell_gr hbl2 ((G1.out.cell bb _ hbl1).trans x0)
  have u1 := cell_gr hbl2 ((G1.out.cell bb _ hbl1).trans x1)
  have u2 := cell_gr hbl2 ((G1.out.cell bb _ hbl1).trans x2)
  have u3 := cell_gr hbl2 ((G1.out.cell bb _ hbl1).trans x3)
  have BBg : ∀ n os, Below B w0 (Go.Sort.grow (reD w1 n) os) := fun n os => BB.out _ (G1.out.trans (((Grew.refl w1).reD n).grow os))
  clear x0 x1 x2 x3
  have g1_0_0 := fun m os => (B1_0.grow m os).cell 0 rfl
  have g1_1_0 := fun m os => (B1_1.grow m os).cell 0 rfl
  have g1_1_1 := fun m os => (B1_1.grow m os).cell 1 rfl
  have g1_1_2 := fun m os => (B1_1.grow m os).cell 2 rfl
  have g1_1_3 := fun m os => (B1_1.grow m os).cell 3 rfl
  have g1_2_0 := fun m os => (B1_2.grow m os).cell 0 rfl
  have g1_2_1 := fun m os => (B1_2.grow m os).cell 1 rfl
  have g1_2_2 := fun m os => (B1_2.grow m os).cell 2 rfl
  have g1_2_3 := fun m os => (B1_2.grow m os).cell 3 rfl
  refine wp_region_made [⟨9, 10, 6, 24, [.int .i64 0, .int .i64 0, .string ⟨#[]⟩, .slice none 0 0], [.int .i64 2, .int .i64 1, .string ⟨#[]⟩, .slice none 0 0]⟩] (by kernel_rfl) (by kernel_rfl) (by simp [madeSlots]) ?_
  repeat (first | (refine lex_skip rfl (by rfl) ?_) | (refine lex_calm rfl (by rfl) (fun K hK => ?_); go_simp; first | (refine hK _ ?_; clear hK K) | (apply Exists.intro; refine ⟨fun _ _ => ?_, hK _ ?_⟩; (with_reducible exact (K0 _ (BBg _ _)).out); clear hK K)))
  refine lex_alloc (m := ⟨9, 10, 6, 24, [.int .i64 0, .int .i64 0, .string ⟨#[]⟩, .slice none 0 0], [.int .i64 2, .int .i64 1, .string ⟨#[]⟩, .slice none 0 0]⟩) (by kernel_rfl) (by simp) (by rfl) rfl ?_ ?_
  · intro ev w
    go_simp
  repeat (first | (refine lex_skip rfl (by rfl) ?_) | (refine lex_calm rfl (by rfl) (fun K hK => ?_); go_simp; first | (refine hK _ ?_; clear hK K) | (apply Exists.intro; refine ⟨fun _ _ => ?_, hK _ ?_⟩; (with_reducible exact (K0 _ (BBg _ _)).out); clear hK K)))
  refine lex_store (m := ⟨9, 10, 6, 24, [.int .i64 0, .int .i64 0, .string ⟨#[]⟩, .slice none 0 0], [.int .i64 2, .int .i64 1, .string ⟨#[]⟩, .slice none 0 0]⟩) (by kernel_rfl) (by simp) (by rfl) rfl ?_ ?_
  · intro vs w b hv hB
    have d0 := hB.cell 0 rfl
    have e0 := hB.free 0
    have d1 := hB.cell 1 rfl
    have e1 := hB.free 1
    have d2 := hB.cell 2 rfl
    have e2 := hB.free 2
    have d3 := hB.cell 3 rfl
    have e3 := hB.free 3
    simp only [] at hv
    simp [go_sem, evS, madeSlots, List.lookup, setAll, *]
  repeat (first | (refine lex_skip rfl (by rfl) ?_) | (refine lex_calm rfl (by rfl) (fun K hK => ?_); go_simp; first | (refine hK _ ?_; clear hK K) | (apply Exists.intro; refine ⟨fun _ _ => ?_, hK _ ?_⟩; (with_reducible exact (K0 _ (BBg _ _)).out); clear hK K)))
  refine lex_nil ?_
  rintro vs w2 ⟨G2, hb, hne⟩
  obtain ⟨b2_0, hv0, s2_0, K2_0⟩ := hb ⟨9, 10, 6, 24, [.int .i64 0, .int .i64 0, .string ⟨#[]⟩, .slice none 0 0], [.int .i64 2, .int .i64 1, .string ⟨#[]⟩, .slice none 0 0]⟩ (by simp) rfl
  simp only [fillS, madeSlots, List.map_cons, List.map_nil, List.foldl_cons, List.foldl_nil, hv0]
  clear hb hne hv0 vs
  have B2_0 : Blk w2 (w.heap.size) 82 [.slice pe me ce] := B1_0.grew G2
  have B2_1 : Blk w2 (w.heap.size + 1) 58 [.int .i64 14, .int .i64 0, .string s, .slice (some ⟨bb, off, none⟩) 2 c] := B1_1.grew G2
  have B2_2 : Blk w2 (w.heap.size + 1 + 1) 24 [.int .i64 0, .int .i64 0, .string ⟨#[]⟩, .slice none 0 0] := B1_2.grew G2
  have B2_3 : Blk w2 b2_0 24 [.int .i64 2, .int .i64 1, .string ⟨#[]⟩, .slice none 0 0] := K2_0
  clear K2_0
  have z2 := G2.size
  replace G2 := hide G2
  have t2_0 := B2_0.lt
  have d2_0_0 := B2_0.cell 0 rfl
  have e2_0_0 := B2_0.free 0
  have t2_1 := B2_1.lt
  have d2_1_0 := B2_1.cell 0 rfl
  have e2_1_0 := B2_1.free 0
  have d2_1_1 := B2_1.cell 1 rfl
  have e2_1_1 := B2_1.free 1
  have d2_1_2 := B2_1.cell 2 rfl
  have e2_1_2 := B2_1.free 2
  have d2_1_3 := B2_1.cell 3 rfl
  have e2_1_3 := B2_1.free 3
  have t2_2 := B2_2.lt
  have d2_2_0 := B2_2.cell 0 rfl
  have e2_2_0 := B2_2.free 0
  have d2_2_1 := B2_2.cell 1 rfl
  have e2_2_1 := B2_2.free 1
  have d2_2_2 := B2_2.cell 2 rfl
  have e2_2_2 := B2_2.free 2
  have d2_2_3 := B2_2.cell 3 rfl
  have e2_2_3 := B2_2.free 3
  have t2_3 := B2_3.lt
  have d2_3_0 := B2_3.cell 0 rfl
  have e2_3_0 := B2_3.free 0
  have d2_3_1 := B2_3.cell 1 rfl
  have e2_3_1 := B2_3.free 1
  have d2_3_2 := B2_3.cell 2 rfl
  have e2_3_2 := B2_3.free 2
  have d2_3_3 := B2_3.cell 3 rfl
  have e2_3_3 := B2_3.free 3
  go_simp
  go_wp2
  refine name_bp fun wq hq => ?_
  have Gq : Grew w wq := by
    rw [hq]
    repeat' (first | (with_reducible exact Grew.refl _) | (with_reducible refine Grew.setCell ?_ ?_ _) | (with_reducible refine Grew.alloc ?_ _) | (with_reducible refine Grew.trans ?_ G2.out) | (with_reducible refine Grew.trans ?_ G1.out) | (dsimp only; omega))
  have Bq : Blk wq (w.heap.size + 1 + 1) 24 [.int .i64 2, .int .i64 1, .string ⟨#[]⟩, .slice none 0 0] := by
    rw [hq]; exact (Blk.set' (Blk.set' (Blk.set' (Blk.set' B2_2 0 _ rfl) 1 _ rfl) 2 _ rfl) 3 _ rfl)
  have q0 := Bq.cell 0 rfl
  have q1 := Bq.cell 1 rfl
  have q2 := Bq.cell 2 rfl
  have q3 := Bq.cell 3 rfl
  refine bodyPost_ret (v := .tuple #[nv 2 1, .int .i64 0]) (by simp [results, Tryd.results59, go_sem, q0, q1, q2, q3]) rfl ⟨rfl, Gq⟩
set_option maxHeartbeats 4000000 in
theorem Ds.and_err {w0 : World} {B : Nat} {pe : Option Addr} {me ce : Nat} {s : ByteArray} {c : Nat} {p : Option Addr} {f : Nat → Nd} {e1 : Int} (hr : Row w0 B p 2 f) (hB0 : B ≤ w0.heap.size) (h0 : Evs w0 B pe me ce (f 0) (0, 2, 1)) (h1 : Evs w0 B pe me ce (f 1) (e1, 0, 0)) (he : e1 ≠ 0) : Ds w0 B pe me ce ⟨13, 0, s, 2, p, c⟩ (e1, 0, 0) := by
  have K1 := fun W hW => hide (h1 W hW)
  have he1 : (e1 != 0) = true := by simpa using he
  clear h1 he
  intro w hB
  have HB := hide hB
  have HR := hide (hr.below hB)
  have BB : Hid (∀ W, Grew w W → Below B w0 W) := hide fun W g => Grew.to HB.out g hB0
  have hBs : B ≤ w.heap.size := Nat.le_trans hB0 hB.size
  have K0 := fun W hW => hide (h0 W hW)
  clear hB hr h0
  obtain ⟨bb, off, rfl, hbl, hcs⟩ := HR.out (by omega)
  obtain ⟨x0, x1, x2, x3⟩ := hcs 0 (by omega)
  simp only [Nat.zero_mul, Nat.add_zero] at x0 x1 x2 x3
  have hbl1 : bb < w.heap.size := Nat.lt_of_lt_of_le hbl hBs
  generalize f 0 = x at *
  obtain ⟨xk, xn, xs, xm, xp, xc⟩ := x
  dsimp only at x0 x1 x2 x3 K0
  go_enter Tryd.func59, Tryd.ntmps59
  go_wp2_with fail
  refine name_world fun w1 h1 => ?_
  have G1 : Grew w w1 := by
    rw [h1]
    repeat' (first | (with_reducible exact Grew.refl _) | (with_reducible refine Grew.setCell ?_ ?_ _) | (with_reducible refine Grew.drewN ?_ _) | (with_reducible refine Grew.reD ?_ _) | (with_reducible refine Grew.alloc ?_ _) | (with_reducible refine Grew.trans ?_ G1.out) | (dsimp only; omega))
  have B1_0 : Blk w1 (w.heap.size) 82 [.slice pe me ce] := by (rw [h1]; repeat' (first | (with_reducible assumption) | ((with_reducible refine Blk.new ?_); (first | (with_reducible rfl) | (simp only [World.size_alloc, World.size_setCell, size_drewN]; done))) | (with_reducible refine Blk.alloc ?_ _) | (with_reducible refine Blk.drewN ?_ _) | (with_reducible refine Blk.drew ?_) | (refine Blk.other ?_ (by omega) _) | fail))
  have B1_1 : Blk w1 (w.heap.size + 1) 58 [.int .i64 13, .int .i64 0, .string s, .slice (some ⟨bb, off, none⟩) 2 c] := by (rw [h1]; repeat' (first | (with_reducible assumption) | ((with_reducible refine Blk.new ?_); (first | (with_reducible rfl) | (simp only [World.size_alloc, World.size_setCell, size_drewN]; done))) | (with_reducible refine Blk.alloc ?_ _) | (with_reducible refine Blk.drewN ?_ _) | (with_reducible refine Blk.drew ?_) | (refine Blk.other ?_ (by omega) _) | fail))
  have B1_2 : Blk w1 (w.heap.size + 1 + 1) 24 [.int .i64 0, .int .i64 0, .string ⟨#[]⟩, .slice none 0 0] := by (rw [h1]; repeat' (first | (with_reducible assumption) | ((with_reducible refine Blk.new ?_); (first | (with_reducible rfl) | (simp only [World.size_alloc, World.size_setCell, size_drewN]; done))) | (with_reducible refine Blk.alloc ?_ _) | (with_reducible refine Blk.drewN ?_ _) | (with_reducible refine Blk.drew ?_) | (refine Blk.other ?_ (by omega) _) | fail))
  have z1 := G1.size
  replace G1 := hide G1
  clear h1
  have t1_0 := B1_0.lt
  have d1_0_0 := B1_0.cell 0 rfl
  have e1_0_0 := B1_0.free 0
  have t1_1 := B1_1.lt
  have d1_1_0 := B1_1.cell 0 rfl
  have e1_1_0 := B1_1.free 0
  have d1_1_1 := B1_1.cell 1 rfl
  have e1_1_1 := B1_1.free 1
  have d1_1_2 := B1_1.cell 2 rfl
  have e1_1_2 := B1_1.free 2
  have d1_1_3 := B1_1.cell 3 rfl
  have e1_1_3 := B1_1.free 3
  have t1_2 := B1_2.lt
  have d1_2_0 := B1_2.cell 0 rfl
  have e1_2_0 := B1_2.free 0
  have d1_2_1 := B1_2.cell 1 rfl
  have e1_2_1 := B1_2.free 1
  have d1_2_2 := B1_2.cell 2 rfl
  have e1_2_2 := B1_2.free 2
  have d1_2_3 := B1_2.cell 3 rfl
  have e1_2_3 := B1_2.free 3
  have hbl2 : bb < w1.heap.size := Nat.lt_of_lt_of_le hbl1 z1
  have u0 := cell_gr hbl2 ((G1.out.cell bb _ hbl1).trans x0)
  have u1 := cell_gr hbl2 ((G1.out.cell bb _ hbl1).trans x1)
  have u2 := cell_gr hbl2 ((G1.out.cell bb _ hbl1).trans x2)
  have u3 := cell_gr hbl2 ((G1.out.cell bb _ hbl1).trans x3)
  have BBg : ∀ n os, Below B w0 (Go.Sort.grow (reD w1 n) os) := fun n os => BB.out _ (G1.out.trans (((Grew.refl w1).reD n).grow os))
  clear x0 x1 x2 x3
  have g1_0_0 := fun m os => (B1_0.grow m os).cell 0 rfl
  have g1_1_0 := fun m os => (B1_1.grow m os).cell 0 rfl
  have g1_1_1 := fun m os => (B1_1.grow m os).cell 1 rfl
  have g1_1_2 := fun m os => (B1_1.grow m os).cell 2 rfl
  have g1_1_3 := fun m os => (B1_1.grow m os).cell 3 rfl
  have g1_2_0 := fun m os => (B1_2.grow m os).cell 0 rfl
  have g1_2_1 := fun m os => (B1_2.grow m os).cell 1 rfl
  have g1_2_2 := fun m os => (B1_2.grow m os).cell 2 rfl
  have g1_2_3 := fun m os => (B1_2.grow m os).cell 3 rfl
  refine wp_region_made [⟨9, 10, 6, 24, [.int .i64 0, .int .i64 0, .string ⟨#[]⟩, .slice none 0 0], [.int .i64 2, .int .i64 1, .string ⟨#[]⟩, .slice none 0 0]⟩] (by kernel_rfl) (by kernel_rfl) (by simp [madeSlots]) ?_
  repeat (first | (refine lex_skip rfl (by rfl) ?_) | (refine lex_calm rfl (by rfl) (fun K hK => ?_); go_simp; first | (refine hK _ ?_; clear hK K) | (apply Exists.intro; refine ⟨fun _ _ => ?_, hK _ ?_⟩; (with_reducible exact (K0 _ (BBg _ _)).out); clear hK K)))
  refine lex_alloc (m := ⟨9, 10, 6, 24, [.int .i64 0, .int .i64 0, .string ⟨#[]⟩, .slice none 0 0], [.int .i64 2, .int .i64 1, .string ⟨#[]⟩, .slice none 0 0]⟩) (by kernel_rfl) (by simp) (by rfl) rfl ?_ ?_
  · intro ev w
    go_simp
  repeat (first | (refine lex_skip rfl (by rfl) ?_) | (refine lex_calm rfl (by rfl) (fun K hK => ?_); go_simp; first | (refine hK _ ?_; clear hK K) | (apply Exists.intro; refine ⟨fun _ _ => ?_, hK _ ?_⟩; (with_reducible exact (K0 _ (BBg _ _)).out); clear hK K)))
  refine lex_store (m := ⟨9, 10, 6, 24, [.int .i64 0, .int .i64 0, .string ⟨#[]⟩, .slice none 0 0], [.int .i64 2, .int .i64 1, .string ⟨#[]⟩, .slice none 0 0]⟩) (by kernel_rfl) (by simp) (by rfl) rfl ?_ ?_
  · intro vs w b hv hB
    have d0 := hB.cell 0 rfl
    have e0 := hB.free 0
    have d1 := hB.cell 1 rfl
    have e1 := hB.free 1
    have d2 := hB.cell 2 rfl
    have e2 := hB.free 2
    have d3 := hB.cell 3 rfl
    have e3 := hB.free 3
    simp only [] at hv
    simp [go_sem, evS, madeSlots, List.lookup, setAll, *]
  repeat (first | (refine lex_skip rfl (by rfl) ?_) | (refine lex_calm rfl (by rfl) (fun K hK => ?_); go_simp; first | (refine hK _ ?_; clear hK K) | (apply Exists.intro; refine ⟨fun _ _ => ?_, hK _ ?_⟩; (with_reducible exact (K0 _ (BBg _ _)).out); clear hK K)))
  refine lex_nil ?_
  rintro vs w2 ⟨G2, hb, hne⟩
  obtain ⟨b2_0, hv0, s2_0, K2_0⟩ := hb ⟨9, 10, 6, 24, [.int .i64 0, .int .i64 0, .string ⟨#[]⟩, .slice none 0 0], [.int .i64 2, .int .i64 1, .string ⟨#[]⟩, .slice none 0 0]⟩ (by simp) rfl
  simp only [fillS, madeSlots, List.map_cons, List.map_nil, List.foldl_cons, List.foldl_nil, hv0]
  clear hb hne hv0 vs
  have B2_0 : Blk w2 (w.heap.size) 82 [.slice pe me ce] := B1_0.grew G2
  have B2_1 : Blk w2 (w.heap.size + 1) 58 [.int .i64 13, .int .i64 0, .string s, .slice (some ⟨bb, off, none⟩) 2 c] := B1_1.grew G2
  have B2_2 : Blk w2 (w.heap.size + 1 + 1) 24 [.int .i64 0, .int .i64 0, .string ⟨#[]⟩, .slice none 0 0] := B1_2.grew G2
  have B2_3 : Blk w2 b2_0 24 [.int .i64 2, .int .i64 1, .string ⟨#[]⟩, .slice none 0 0] := K2_0
  clear K2_0
  have z2 := G2.size
  replace G2 := hide G2
  have t2_0 := B2_0.lt
  have d2_0_0 := B2_0.cell 0 rfl
  have e2_0_0 := B2_0.free 0
  have t2_1 := B2_1.lt
  have d2_1_0 := B2_1.cell 0 rfl
  have e2_1_0 := B2_1.free 0
  have d2_1_1 := B2_1.cell 1 rfl
  have e2_1_1 := B2_1.free 1
  have d2_1_2 := B2_1.cell 2 rfl
  have e2_1_2 := B2_1.free 2
  have d2_1_3 := B2_1.cell 3 rfl
  have e2_1_3 := B2_1.free 3
  have t2_2 := B2_2.lt
  have d2_2_0 := B2_2.cell 0 rfl
  have e2_2_0 := B2_2.free 0
  have d2_2_1 := B2_2.cell 1 rfl
  have e2_2_1 := B2_2.free 1
  have d2_2_2 := B2_2.cell 2 rfl
  have e2_2_2 := B2_2.free 2
  have d2_2_3 := B2_2.cell 3 rfl
  have e2_2_3 := B2_2.free 3
  have t2_3 := B2_3.lt
  have d2_3_0 := B2_3.cell 0 rfl
  have e2_3_0 := B2_3.free 0
  have d2_3_1 := B2_3.cell 1 rfl
  have e2_3_1 := B2_3.free 1
  have d2_3_2 := B2_3.cell 2 rfl
  have e2_3_2 := B2_3.free 2
  have d2_3_3 := B2_3.cell 3 rfl
  have e2_3_3 := B2_3.free 3
  go_simp
  have hbl3 : bb < w2.heap.size := Nat.lt_of_lt_of_le hbl2 z2
  obtain ⟨y0, y1, y2, y3⟩ := hcs 1 (by omega)
  simp only [Nat.one_mul] at y0 y1 y2 y3
  generalize f 1 = y at *
  obtain ⟨yk, yn, ys, ym, yp, yc⟩ := y
  dsimp only at y0 y1 y2 y3 K1
  have GG2 := G1.out.trans G2.out
  have v0 := cell_gr hbl3 ((GG2.cell bb _ hbl1).trans y0)
  have v1 := cell_gr hbl3 ((GG2.cell bb _ hbl1).trans y1)
  have v2 := cell_gr hbl3 ((GG2.cell bb _ hbl1).trans y2)
  have v3 := cell_gr hbl3 ((GG2.cell bb _ hbl1).trans y3)
  have BBh : ∀ n os, Below B w0 (Go.Sort.grow (reD w2 n) os) := fun n os => BB.out _ (GG2.trans (((Grew.refl w2).reD n).grow os))
  clear y0 y1 y2 y3 u0 u1 u2 u3 K0 BBg GG2 hcs
  go_wp2_with fail
  have g2_0_0 := fun m os => (B2_0.grow m os).cell 0 rfl
  have g2_1_0 := fun m os => (B2_1.grow m os).cell 0 rfl
  have g2_1_1 := fun m os => (B2_1.grow m os).cell 1 rfl
  have g2_1_2 := fun m os => (B2_1.grow m os).cell 2 rfl
  have g2_1_3 := fun m os => (B2_1.grow m os).cell 3 rfl
  have g2_2_0 := fun m os => (B2_2.grow m os).cell 0 rfl
  have g2_2_1 := fun m os => (B2_2.grow m os).cell 1 rfl
  have g2_2_2 := fun m os => (B2_2.grow m os).cell 2 rfl
  have g2_2_3 := fun m os => (B2_2.grow m os).cell 3 rfl
  have g2_3_0 := fun m os => (B2_3.grow m os).cell 0 rfl
  have g2_3_1 := fun m os => (B2_3.grow m os).cell 1 rfl
  have g2_3_2 := fun m os => (B2_3.grow m os).cell 2 rfl
  have g2_3_3 := fun m os => (B2_3.grow m os).cell 3 rfl
  refine wp_region_made [⟨9, 10, 9, 24, [.int .i64 0, .int .i64 0, .string ⟨#[]⟩, .slice none 0 0], [.int .i64 0, .int .i64 0, .string ⟨#[]⟩, .slice none 0 0]⟩] (by kernel_rfl) (by kernel_rfl) (by simp [madeSlots]) ?_
  repeat (first | (refine lex_skip rfl (by rfl) ?_) | (refine lex_calm rfl (by rfl) (fun K hK => ?_); go_simp; first | (refine hK _ ?_; clear hK K) | (apply Exists.intro; refine ⟨fun _ _ => ?_, hK _ ?_⟩; (with_reducible exact (K1 _ (BBh _ _)).out); clear hK K)))
  refine lex_alloc (m := ⟨9, 10, 9, 24, [.int .i64 0, .int .i64 0, .string ⟨#[]⟩, .slice none 0 0], [.int .i64 0, .int .i64 0, .string ⟨#[]⟩, .slice none 0 0]⟩) (by kernel_rfl) (by simp) (by rfl) rfl ?_ ?_
  · intro ev w
    go_simp
  repeat (first | (refine lex_skip rfl (by rfl) ?_) | (refine lex_calm rfl (by rfl) (fun K hK => ?_); go_simp; first | (refine hK _ ?_; clear hK K) | (apply Exists.intro; refine ⟨fun _ _ => ?_, hK _ ?_⟩; (with_reducible exact (K1 _ (BBh _ _)).out); clear hK K)))
  refine lex_store (m := ⟨9, 10, 9, 24, [.int .i64 0, .int .i64 0, .string ⟨#[]⟩, .slice none 0 0], [.int .i64 0, .int .i64 0, .string ⟨#[]⟩, .slice none 0 0]⟩) (by kernel_rfl) (by simp) (by rfl) rfl ?_ ?_
  · intro vs w b hv hB
    have d0 := hB.cell 0 rfl
    have e0 := hB.free 0
    have d1 := hB.cell 1 rfl
    have e1 := hB.free 1
    have d2 := hB.cell 2 rfl
    have e2 := hB.free 2
    have d3 := hB.cell 3 rfl
    have e3 := hB.free 3
    simp only [] at hv
    simp [go_sem, evS, madeSlots, List.lookup, setAll, *]
  repeat (first | (refine lex_skip rfl (by rfl) ?_) | (refine lex_calm rfl (by rfl) (fun K hK => ?_); go_simp; first | (refine hK _ ?_; clear hK K) | (apply Exists.intro; refine ⟨fun _ _ => ?_, hK _ ?_⟩; (with_reducible exact (K1 _ (BBh _ _)).out); clear hK K)))
  refine lex_nil ?_
  rintro vs w3 ⟨G3, hb, hne⟩
  obtain ⟨b3_0, hv0, s3_0, K3_0⟩ := hb ⟨9, 10, 9, 24, [.int .i64 0, .int .i64 0, .string ⟨#[]⟩, .slice none 0 0], [.int .i64 0, .int .i64 0, .string ⟨#[]⟩, .slice none 0 0]⟩ (by simp) rfl
  simp only [fillS, madeSlots, List.map_cons, List.map_nil, List.foldl_cons, List.foldl_nil, hv0]
  clear hb hne hv0 vs
  have B3_0 : Blk w3 (w.heap.size) 82 [.slice pe me ce] := B2_0.grew G3
  have B3_1 : Blk w3 (w.heap.size + 1) 58 [.int .i64 13, .int .i64 0, .string s, .slice (some ⟨bb, off, none⟩) 2 c] := B2_1.grew G3
  have B3_2 : Blk w3 (w.heap.size + 1 + 1) 24 [.int .i64 0, .int .i64 0, .string ⟨#[]⟩, .slice none 0 0] := B2_2.grew G3
  have B3_3 : Blk w3 (b2_0) 24 [.int .i64 2, .int .i64 1, .string ⟨#[]⟩, .slice none 0 0] := B2_3.grew G3
  have B3_4 : Blk w3 b3_0 24 [.int .i64 0, .int .i64 0, .string ⟨#[]⟩, .slice none 0 0] := K3_0
  clear K3_0
  have z3 := G3.size
  replace G3 := hide G3
  have t3_0 := B3_0.lt
  have d3_0_0 := B3_0.cell 0 rfl
  have e3_0_0 := B3_0.free 0
  have t3_1 := B3_1.lt
  have d3_1_0 := B3_1.cell 0 rfl
  have e3_1_0 := B3_1.free 0
  have d3_1_1 := B3_1.cell 1 rfl
  have e3_1_1 := B3_1.free 1
  have d3_1_2 := B3_1.cell 2 rfl
  have e3_1_2 := B3_1.free 2
  have d3_1_3 := B3_1.cell 3 rfl
  have e3_1_3 := B3_1.free 3
  have t3_2 := B3_2.lt
  have d3_2_0 := B3_2.cell 0 rfl
  have e3_2_0 := B3_2.free 0
  have d3_2_1 := B3_2.cell 1 rfl
  have e3_2_1 := B3_2.free 1
  have d3_2_2 := B3_2.cell 2 rfl
  have e3_2_2 := B3_2.free 2
  have d3_2_3 := B3_2.cell 3 rfl
  have e3_2_3 := B3_2.free 3
  have t3_3 := B3_3.lt
  have d3_3_0 := B3_3.cell 0 rfl
  have e3_3_0 := B3_3.free 0
  have d3_3_1 := B3_3.cell 1 rfl
  have e3_3_1 := B3_3.free 1
  have d3_3_2 := B3_3.cell 2 rfl
  have e3_3_2 := B3_3.free 2
  have d3_3_3 := B3_3.cell 3 rfl
  have e3_3_3 := B3_3.free 3
  have t3_4 := B3_4.lt
  have d3_4_0 := B3_4.cell 0 rfl
  have e3_4_0 := B3_4.free 0
  have d3_4_1 := B3_4.cell 1 rfl
  have e3_4_1 := B3_4.free 1
  have d3_4_2 := B3_4.cell 2 rfl
  have e3_4_2 := B3_4.free 2
  have d3_4_3 := B3_4.cell 3 rfl
  have e3_4_3 := B3_4.free 3
  go_simp
  go_wp2
  refine name_bp fun wq hq => ?_
  have Gq : Grew w wq := by
    rw [hq]
    repeat' (first | (with_reducible exact Grew.refl _) | (with_reducible refine Grew.setCell ?_ ?_ _) | (with_reducible refine Grew.alloc ?_ _) | (with_reducible refine Grew.trans ?_ G3.out) | (with_reducible refine Grew.trans ?_ G2.out) | (with_reducible refine Grew.trans ?_ G1.out) | (dsimp only; omega))
  have Bq : Blk wq (w.heap.size + 1 + 1) 24 [.int .i64 0, .int .i64 0, .string ⟨#[]⟩, .slice none 0 0] := by
    rw [hq]; exact (Blk.set' (Blk.set' (Blk.set' (Blk.set' B3_2 0 _ rfl) 1 _ rfl) 2 _ rfl) 3 _ rfl)
  have q0 := Bq.cell 0 rfl
  have q1 := Bq.cell 1 rfl
  have q2 := Bq.cell 2 rfl
  have q3 := Bq.cell 3 rfl
  refine bodyPost_ret (v := .tuple #[nv 0 0, .int .i64 e1]) (by simp [results, Tryd.results59, go_sem, q0, q1, q2, q3]) rfl ⟨rfl, Gq⟩
set_option maxHeartbeats 4000000 in
theorem Ds.if_yes {w0 : World} {B : Nat} {pe : Option Addr} {me ce : Nat} {s : ByteArray} {c : Nat} {p : Option Addr} {f : Nat → Nd} {e1 k1 n1 : Int} (hr : Row w0 B p 3 f) (hB0 : B ≤ w0.heap.size) (h0 : Evs w0 B pe me ce (f 0) (0, 2, 1)) (h1 : Evs w0 B pe me ce (f 1) (e1, k1, n1)) : Ds w0 B pe me ce ⟨15, 0, s, 3, p, c⟩ (e1, k1, n1) := by
  have K1 := fun W hW => hide (h1 W hW)
  clear h1
  intro w hB
  have HB := hide hB
  have HR := hide (hr.below hB)
  have BB : Hid (∀ W, Grew w W → Below B w0 W) := hide fun W g => Grew.to HB.out g hB0
  have hBs : B ≤ w.heap.size := Nat.le_trans hB0 hB.size
  have K0 := fun W hW => hide (h0 W hW)
  clear hB hr h0
  obtain ⟨bb, off, rfl, hbl, hcs⟩ := HR.out (by omega)
  obtain ⟨x0, x1, x2, x3⟩ := hcs 0 (by omega)
  simp only [Nat.zero_mul, Nat.add_zero] at x0 x1 x2 x3
  have hbl1 : bb < w.heap.size := Nat.lt_of_lt_of_le hbl hBs
  generalize f 0 = x at *
  obtain ⟨xk, xn, xs, xm, xp, xc⟩ := x
  dsimp only at x0 x1 x2 x3 K0
  go_enter Tryd.func59, Tryd.ntmps59
  go_wp2_with fail
  refine name_world fun w1 h1 => ?_
  have G1 : Grew w w1 := by
    rw [h1]
    repeat' (first | (with_reducible exact Grew.refl _) | (with_reducible refine Grew.setCell ?_ ?_ _) | (with_reducible refine Grew.drewN ?_ _) | (with_reducible refine Grew.reD ?_ _) | (with_reducible refine Grew.alloc ?_ _) | (with_reducible refine Grew.trans ?_ G1.out) | (dsimp only; omega))
  have B1_0 : Blk w1 (w.heap.size) 82 [.slice pe me ce] := by (rw [h1]; repeat' (first | (with_reducible assumption) | ((with_reducible refine Blk.new ?_); (first | (with_reducible rfl) | (simp only [World.size_alloc, World.size_setCell, size_drewN]; done))) | (with_reducible refine Blk.alloc ?_ _) | (with_reducible refine Blk.drewN ?_ _) | (with_reducible refine Blk.drew ?_) | (refine Blk.other ?_ (by omega) _) | fail))
  have B1_1 : Blk w1 (w.heap.size + 1) 58 [.int .i64 15, .int .i64 0, .string s, .slice (some ⟨bb, off, none⟩) 3 c] := by (rw [h1]; repeat' (first | (with_reducible assumption) | ((with_reducible refine Blk.new ?_); (first | (with_reducible rfl) | (simp only [World.size_alloc, World.size_setCell, size_drewN]; done))) | (with_reducible refine Blk.alloc ?_ _) | (with_reducible refine Blk.drewN ?_ _) | (with_reducible refine Blk.drew ?_) | (refine Blk.other ?_ (by omega) _) | fail))
  have B1_2 : Blk w1 (w.heap.size + 1 + 1) 24 [.int .i64 0, .int .i64 0, .string ⟨#[]⟩, .slice none 0 0] := by (rw [h1]; repeat' (first | (with_reducible assumption) | ((with_reducible refine Blk.new ?_); (first | (with_reducible rfl) | (simp only [World.size_alloc, World.size_setCell, size_drewN]; done))) | (with_reducible refine Blk.alloc ?_ _) | (with_reducible refine Blk.drewN ?_ _) | (with_reducible refine Blk.drew ?_) | (refine Blk.other ?_ (by omega) _) | fail))
  have z1 := G1.size
  replace G1 := hide G1
  clear h1
  have t1_0 := B1_0.lt
  have d1_0_0 := B1_0.cell 0 rfl
  have e1_0_0 := B1_0.free 0
  have t1_1 := B1_1.lt
  have d1_1_0 := B1_1.cell 0 rfl
  have e1_1_0 := B1_1.free 0
  have d1_1_1 := B1_1.cell 1 rfl
  have e1_1_1 := B1_1.free 1
  have d1_1_2 := B1_1.cell 2 rfl
  have e1_1_2 := B1_1.free 2
  have d1_1_3 := B1_1.cell 3 rfl
  have e1_1_3 := B1_1.free 3
  have t1_2 := B1_2.lt
  have d1_2_0 := B1_2.cell 0 rfl
  have e1_2_0 := B1_2.free 0
  have d1_2_1 := B1_2.cell 1 rfl
  have e1_2_1 := B1_2.free 1
  have d1_2_2 := B1_2.cell 2 rfl
  have e1_2_2 := B1_2.free 2
  have d1_2_3 := B1_2.cell 3 rfl
  have e1_2_3 := B1_2.free 3
  have hbl2 : bb < w1.heap.size := Nat.lt_of_lt_of_le hbl1 z1
  have u0 := cell_gr hbl2 ((G1.out.cell bb _ hbl1).trans x0)
  have u1 := cell_gr hbl2 ((G1.out.cell bb _ hbl1).trans x1)
  have u2 := cell_gr hbl2 ((G1.out.cell bb _ hbl1).trans x2)
  have u3 := cell_gr hbl2 ((G1.out.cell bb _ hbl1).trans x3)
  have BBg : ∀ n os, Below B w0 (Go.Sort.grow (reD w1 n) os) := fun n os => BB.out _ (G1.out.trans (((Grew.refl w1).reD n).grow os))
  clear x0 x1 x2 x3
  have g1_0_0 := fun m os => (B1_0.grow m os).cell 0 rfl
  have g1_1_0 := fun m os => (B1_1.grow m os).cell 0 rfl
  have g1_1_1 := fun m os => (B1_1.grow m os).cell 1 rfl
  have g1_1_2 := fun m os => (B1_1.grow m os).cell 2 rfl
  have g1_1_3 := fun m os => (B1_1.grow m os).cell 3 rfl
  have g1_2_0 := fun m os => (B1_2.grow m os).cell 0 rfl
  have g1_2_1 := fun m os => (B1_2.grow m os).cell 1 rfl
  have g1_2_2 := fun m os => (B1_2.grow m os).cell 2 rfl
  have g1_2_3 := fun m os => (B1_2.grow m os).cell 3 rfl
  refine wp_region_made [⟨9, 10, 6, 24, [.int .i64 0, .int .i64 0, .string ⟨#[]⟩, .slice none 0 0], [.int .i64 2, .int .i64 1, .string ⟨#[]⟩, .slice none 0 0]⟩] (by kernel_rfl) (by kernel_rfl) (by simp [madeSlots]) ?_
  repeat (first | (refine lex_skip rfl (by rfl) ?_) | (refine lex_calm rfl (by rfl) (fun K hK => ?_); go_simp; first | (refine hK _ ?_; clear hK K) | (apply Exists.intro; refine ⟨fun _ _ => ?_, hK _ ?_⟩; (with_reducible exact (K0 _ (BBg _ _)).out); clear hK K)))
  refine lex_alloc (m := ⟨9, 10, 6, 24, [.int .i64 0, .int .i64 0, .string ⟨#[]⟩, .slice none 0 0], [.int .i64 2, .int .i64 1, .string ⟨#[]⟩, .slice none 0 0]⟩) (by kernel_rfl) (by simp) (by rfl) rfl ?_ ?_
  · intro ev w
    go_simp
  repeat (first | (refine lex_skip rfl (by rfl) ?_) | (refine lex_calm rfl (by rfl) (fun K hK => ?_); go_simp; first | (refine hK _ ?_; clear hK K) | (apply Exists.intro; refine ⟨fun _ _ => ?_, hK _ ?_⟩; (with_reducible exact (K0 _ (BBg _ _)).out); clear hK K)))
  refine lex_store (m := ⟨9, 10, 6, 24, [.int .i64 0, .int .i64 0, .string ⟨#[]⟩, .slice none 0 0], [.int .i64 2, .int .i64 1, .string ⟨#[]⟩, .slice none 0 0]⟩) (by kernel_rfl) (by simp) (by rfl) rfl ?_ ?_
  · intro vs w b hv hB
    have d0 := hB.cell 0 rfl
    have e0 := hB.free 0
    have d1 := hB.cell 1 rfl
    have e1 := hB.free 1
    have d2 := hB.cell 2 rfl
    have e2 := hB.free 2
    have d3 := hB.cell 3 rfl
    have e3 := hB.free 3
    simp only [] at hv
    simp [go_sem, evS, madeSlots, List.lookup, setAll, *]
  repeat (first | (refine lex_skip rfl (by rfl) ?_) | (refine lex_calm rfl (by rfl) (fun K hK => ?_); go_simp; first | (refine hK _ ?_; clear hK K) | (apply Exists.intro; refine ⟨fun _ _ => ?_, hK _ ?_⟩; (with_reducible exact (K0 _ (BBg _ _)).out); clear hK K)))
  refine lex_nil ?_
  rintro vs w2 ⟨G2, hb, hne⟩
  obtain ⟨b2_0, hv0, s2_0, K2_0⟩ := hb ⟨9, 10, 6, 24, [.int .i64 0, .int .i64 0, .string ⟨#[]⟩, .slice none 0 0], [.int .i64 2, .int .i64 1, .string ⟨#[]⟩, .slice none 0 0]⟩ (by simp) rfl
  simp only [fillS, madeSlots, List.map_cons, List.map_nil, List.foldl_cons, List.foldl_nil, hv0]
  clear hb hne hv0 vs
  have B2_0 : Blk w2 (w.heap.size) 82 [.slice pe me ce] := B1_0.grew G2
  have B2_1 : Blk w2 (w.heap.size + 1) 58 [.int .i64 15, .int .i64 0, .string s, .slice (some ⟨bb, off, none⟩) 3 c] := B1_1.grew G2
  have B2_2 : Blk w2 (w.heap.size + 1 + 1) 24 [.int .i64 0, .int .i64 0, .string ⟨#[]⟩, .slice none 0 0] := B1_2.grew G2
  have B2_3 : Blk w2 b2_0 24 [.int .i64 2, .int .i64 1, .string ⟨#[]⟩, .slice none 0 0] := K2_0
  clear K2_0
  have z2 := G2.size
  replace G2 := hide G2
  have t2_0 := B2_0.lt
  have d2_0_0 := B2_0.cell 0 rfl
  have e2_0_0 := B2_0.free 0
  have t2_1 := B2_1.lt
  have d2_1_0 := B2_1.cell 0 rfl
  have e2_1_0 := B2_1.free 0
  have d2_1_1 := B2_1.cell 1 rfl
  have e2_1_1 := B2_1.free 1
  have d2_1_2 := B2_1.cell 2 rfl
  have e2_1_2 := B2_1.free 2
  have d2_1_3 := B2_1.cell 3 rfl
  have e2_1_3 := B2_1.free 3
  have t2_2 := B2_2.lt
  have d2_2_0 := B2_2.cell 0 rfl
  have e2_2_0 := B2_2.free 0
  have d2_2_1 := B2_2.cell 1 rfl
  have e2_2_1 := B2_2.free 1
  have d2_2_2 := B2_2.cell 2 rfl
  have e2_2_2 := B2_2.free 2
  have d2_2_3 := B2_2.cell 3 rfl
  have e2_2_3 := B2_2.free 3
  have t2_3 := B2_3.lt
  have d2_3_0 := B2_3.cell 0 rfl
  have e2_3_0 := B2_3.free 0
  have d2_3_1 := B2_3.cell 1 rfl
  have e2_3_1 := B2_3.free 1
  have d2_3_2 := B2_3.cell 2 rfl
  have e2_3_2 := B2_3.free 2
  have d2_3_3 := B2_3.cell 3 rfl
  have e2_3_3 := B2_3.free 3
  go_simp
  have hbl3 : bb < w2.heap.size := Nat.lt_of_lt_of_le hbl2 z2
  obtain ⟨y0, y1, y2, y3⟩ := hcs 1 (by omega)
  simp only [Nat.one_mul] at y0 y1 y2 y3
  generalize f 1 = y at *
  obtain ⟨yk, yn, ys, ym, yp, yc⟩ := y
  dsimp only at y0 y1 y2 y3 K1
  have GG2 := G1.out.trans G2.out
  have v0 := cell_gr hbl3 ((GG2.cell bb _ hbl1).trans y0)
  have v1 := cell_gr hbl3 ((GG2.cell bb _ hbl1).trans y1)
  have v2 := cell_gr hbl3 ((GG2.cell bb _ hbl1).trans y2)
  have v3 := cell_gr hbl3 ((GG2.cell bb _ hbl1).trans y3)
  have BBh : ∀ n os, Below B w0 (Go.Sort.grow (reD w2 n) os) := fun n os => BB.out _ (GG2.trans (((Grew.refl w2).reD n).grow os))
  clear y0 y1 y2 y3 u0 u1 u2 u3 K0 BBg GG2 hcs
  go_wp2_with fail
  have g0 := fun m os => (B2_0.grow m os).cell 0 rfl
  have g1 := fun m os => (B2_1.grow m os).cell 3 rfl
  refine wp_region_sa 8 5 (.int .i64 e1) (fun W => (((W.setCell ⟨w.heap.size + 1 + 1, 0, none⟩ (.int .i64 k1)).setCell ⟨w.heap.size + 1 + 1, 1, none⟩ (.int .i64 n1)).setCell ⟨w.heap.size + 1 + 1, 2, none⟩ (.string ⟨#[]⟩)).setCell ⟨w.heap.size + 1 + 1, 3, none⟩ (.slice none 0 0)) (by kernel_rfl) (by kernel_rfl) (by simp) rfl (by kernel_rfl) ?_
  iterate 8 (refine lex_calm rfl (by rfl) (fun K hK => ?_); go_simp; first | (refine hK _ ?_; clear hK K) | (apply Exists.intro; refine ⟨fun _ _ => ?_, hK _ ?_⟩; (with_reducible exact (K1 _ (BBh _ _)).out); clear hK K))
  refine lex_sa_store rfl ?_ ?_
  · intro vs W hG
    have Q := B2_2.grew hG
    have d0 := Q.cell 0 rfl
    have fr0 := Q.free 0
    have d1 := Q.cell 1 rfl
    have fr1 := Q.free 1
    have d2 := Q.cell 2 rfl
    have fr2 := Q.free 2
    have d3 := Q.cell 3 rfl
    have fr3 := Q.free 3
    have dlt := Q.lt
    simp [go_sem, evS, List.lookup, *]
  refine lex_sa_assign rfl (by kernel_rfl) ?_ ?_
  · intro vs W
    simp [go_sem, evS, List.lookup]
  refine lex_nil ?_
  rintro vs W (⟨h, -, -⟩ | ⟨-, hv, w3, G3, rfl⟩)
  · cases h
  have hv := hv rfl
  simp only [fillS, List.foldl_cons, List.foldl_nil, hv]
  have B3_2 := B2_2.grew G3
  replace G3 := hide G3
  go_simp
  go_wp2
  refine name_bp fun wq hq => ?_
  have Gq : Grew w wq := by
    rw [hq]
    repeat' (first | (with_reducible exact Grew.refl _) | (with_reducible refine Grew.setCell ?_ ?_ _) | (with_reducible refine Grew.alloc ?_ _) | (with_reducible refine Grew.trans ?_ G3.out) | (with_reducible refine Grew.trans ?_ G2.out) | (with_reducible refine Grew.trans ?_ G1.out) | (dsimp only; omega))
  have Bq : Blk wq (w.heap.size + 1 + 1) 24 [.int .i64 k1, .int .i64 n1, .string ⟨#[]⟩, .slice none 0 0] := by
    rw [hq]; exact (Blk.set' (Blk.set' (Blk.set' (Blk.set' B3_2 0 _ rfl) 1 _ rfl) 2 _ rfl) 3 _ rfl)
  have q0 := Bq.cell 0 rfl
  have q1 := Bq.cell 1 rfl
  have q2 := Bq.cell 2 rfl
  have q3 := Bq.cell 3 rfl
  refine bodyPost_ret (v := .tuple #[nv k1 n1, .int .i64 e1]) (by simp [results, Tryd.results59, go_sem, q0, q1, q2, q3]) rfl ⟨rfl, Gq⟩
end Go.Proofs.YtnhhmndnmkkhlaaDoor
