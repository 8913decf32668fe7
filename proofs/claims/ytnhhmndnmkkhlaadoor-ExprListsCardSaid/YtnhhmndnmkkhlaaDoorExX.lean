/- eval at operators whose first operand has an error, and at those that decide evaluates. -/
import Derived.Test.YtnhhmndnmkkhlaaDoorExP
namespace Go.Proofs.YtnhhmndnmkkhlaaDoor
open Go.RowKit Go.Sort
set_option linter.unusedVariables false
set_option linter.unusedSimpArgs false

set_option maxRecDepth 20000 in
set_option maxHeartbeats 4000000 in
theorem Evs.bin_err {w0 : World} {B : Nat} {pe : Option Addr} {me ce : Nat} {op e0 : Int} {s : ByteArray} {c : Nat} {p : Option Addr} {f : Nat → Nd} (hop : Op6 op) (hr : Row w0 B p 2 f) (hB0 : B ≤ w0.heap.size)
    (h0 : Evs w0 B pe me ce (f 0) (e0, 0, 0)) (he : e0 ≠ 0) : Evs w0 B pe me ce ⟨op, 0, s, 2, p, c⟩ (e0, 0, 0) := by
  intro w hB
  have he1 : (e0 != 0) = true := by simpa using he
  have e1 : (op == 1) = false := by have := hop; unfold Op6 at this; simp; omega
  have e2 : (op == 2) = false := by have := hop; unfold Op6 at this; simp; omega
  have e3 : (op == 3) = false := by have := hop; unfold Op6 at this; simp; omega
  have e4 : (op == 4) = false := by have := hop; unfold Op6 at this; simp; omega
  have e5 : (op == 13) = false := by have := hop; unfold Op6 at this; simp; omega
  have e6 : (op == 14) = false := by have := hop; unfold Op6 at this; simp; omega
  have e7 : (op == 15) = false := by have := hop; unfold Op6 at this; simp; omega
  have HB := hide hB
  have HR := hide (hr.below hB)
  have H0 := hide h0
  have hBs : B ≤ w.heap.size := Nat.le_trans hB0 hB.size
  clear hB hr h0 he hop
  go_enter Tryd.func45, Tryd.ntmps45
  have hmk := make_value2 (((w.alloc (.cells #[.slice pe me ce] 82)).alloc (.cells #[.int .i64 op, .int .i64 0, .string s, .slice p 2 c] 58)).alloc (.cells #[.int .i64 0, .int .i64 0, .string ⟨#[]⟩, .slice none 0 0] 24))
  simp only [World.size_alloc] at hmk
  go_wp2
  clear hmk
  refine name_world fun w1 h1 => ?_
  have b0 : Hid (Blk w1 w.heap.size 82 [.slice pe me ce]) := by
    refine hide ?_; rw [h1]; repeat' (first | (with_reducible assumption) | ((with_reducible refine Blk.new ?_); (first | (with_reducible rfl) | (simp only [World.size_alloc, World.size_setCell, size_drewN]; done))) | (with_reducible refine Blk.alloc ?_ _) | (refine Blk.other ?_ (by omega) _) | fail)
  have b1 : Hid (Blk w1 (w.heap.size + 1) 58 [.int .i64 op, .int .i64 0, .string s, .slice p 2 c]) := by
    refine hide ?_; rw [h1]; repeat' (first | (with_reducible assumption) | ((with_reducible refine Blk.new ?_); (first | (with_reducible rfl) | (simp only [World.size_alloc, World.size_setCell, size_drewN]; done))) | (with_reducible refine Blk.alloc ?_ _) | (refine Blk.other ?_ (by omega) _) | fail)
  have b2 : Hid (Blk w1 (w.heap.size + 1 + 1) 24 [.int .i64 0, .int .i64 0, .string ⟨#[]⟩, .slice none 0 0]) := by
    refine hide ?_; rw [h1]; repeat' (first | (with_reducible assumption) | ((with_reducible refine Blk.new ?_); (first | (with_reducible rfl) | (simp only [World.size_alloc, World.size_setCell, size_drewN]; done))) | (with_reducible refine Blk.alloc ?_ _) | (refine Blk.other ?_ (by omega) _) | fail)
  have G1 : Hid (Grew w w1) := by rw [h1]; exact ((((Grew.refl _).alloc _).alloc _).alloc _).alloc _
  clear h1
  have c3 := b1.out.cell 3 rfl
  go_wp2
  clear c3
  go_loopg [53] 3 (fun gh vk wr => vk = .int .i64 0 ∧ wr = w1)
  case atStart => exact ⟨rfl, rfl⟩
  case round =>
    obtain ⟨rfl, rfl⟩ := hrel
    have BB : Below B w0 wr := Grew.to HB.out G1.out hB0
    obtain ⟨bb, off, rfl, hbl, hcs⟩ := (HR.out.below (G1.out.1.mono hBs)) (by omega)
    obtain ⟨x0, x1, x2, x3⟩ := hcs 0 (by omega)
    clear hcs
    have KC := fun W hW => hide (H0.out W hW)
    generalize f 0 = x at *
    obtain ⟨xk, xn, xs, xm, xp, xc⟩ := x
    dsimp only at x0 x1 x2 x3 KC
    simp only [Nat.zero_mul, Nat.add_zero] at x0 x1 x2 x3
    have c0 := b0.out.cell 0 rfl
    have hl0 := b0.out.lt
    go_wp2_with fail
    refine name_calls fun w4 h4 => ?_
    have G4 : Grew wr w4 := by rw [h4]; exact (Grew.refl _).alloc _
    clear h4
    refine ((KC w4 (Grew.to BB G4 hB0)).out).mono ?_
    rintro e w5 ⟨rfl, G5⟩
    have G6 := G4.trans G5
    have X := b2.out.grew G6
    have GG := G1.out.trans G6
    clear b0 b1 b2 G1 G4 G5 G6 BB x0 x1 x2 x3 c0 KC H0
    have d0 := X.cell 0 rfl
    have fr0 := X.free 0
    have d1 := X.cell 1 rfl
    have fr1 := X.free 1
    have d2 := X.cell 2 rfl
    have fr2 := X.free 2
    have d3 := X.cell 3 rfl
    have fr3 := X.free 3
    have dlt := X.lt
    go_wp2
    refine name_bp fun wq hq => ?_
    have Gq : Grew w wq := by
      rw [hq]
      repeat' (first | (with_reducible exact GG) | (with_reducible refine Grew.setCell ?_ ?_ _) | (with_reducible refine Grew.alloc ?_ _) | (dsimp only; omega))
    have Bq : Blk wq (w.heap.size + 1 + 1) 24 [.int .i64 0, .int .i64 0, .string ⟨#[]⟩, .slice none 0 0] := by
      rw [hq]
      repeat (with_reducible refine Blk.alloc ?_ _)
      exact (Blk.set' (Blk.set' (Blk.set' (Blk.set' X 0 _ rfl) 1 _ rfl) 2 _ rfl) 3 _ rfl)
    have q0 := Bq.cell 0 rfl
    have q1 := Bq.cell 1 rfl
    have q2 := Bq.cell 2 rfl
    have q3 := Bq.cell 3 rfl
    refine bodyPost_ret (v := .tuple #[nv 0 0, .int .i64 e0]) (by simp [results, Tryd.results45, go_sem, q0, q1, q2, q3]) rfl ⟨rfl, Gq⟩
set_option maxHeartbeats 4000000 in
theorem Evs.of13 {w0 : World} {B : Nat} {pe : Option Addr} {me ce m c : Nat} {s : ByteArray} {p : Option Addr} {e0 k0 n0 : Int} (hBw : B ≤ w0.heap.size) (h : Ds w0 B pe me ce ⟨13, 0, s, m, p, c⟩ (e0, k0, n0)) : Evs w0 B pe me ce ⟨13, 0, s, m, p, c⟩ (e0, k0, n0) := by
  intro w hB
  have K := fun W hW => hide (h W hW)
  have BB := hide hB
  clear h hB
  dsimp only [Nd.v] at K
  go_enter Tryd.func45, Tryd.ntmps45
  go_wp2_with fail
  refine name_calls fun w1 h1 => ?_
  have G1 : Grew w w1 := by rw [h1]; exact (((Grew.refl _).alloc _).alloc _).alloc _
  have b2 : Blk w1 (w.heap.size + 1 + 1) 24 [.int .i64 0, .int .i64 0, .string ⟨#[]⟩, .slice none 0 0] := by
    rw [h1]; repeat' (first | (with_reducible assumption) | ((with_reducible refine Blk.new ?_); (first | (with_reducible rfl) | (simp only [World.size_alloc, World.size_setCell, size_drewN]; done))) | (with_reducible refine Blk.alloc ?_ _) | (refine Blk.other ?_ (by omega) _) | fail)
  clear h1
  refine ((K w1 (Grew.to BB.out G1 hBw)).out).mono ?_
  rintro e w2 ⟨rfl, G2⟩
  have X := b2.grew G2
  have GG := G1.trans G2
  clear b2 G1 G2 K BB
  have d0 := X.cell 0 rfl
  have fr0 := X.free 0
  have d1 := X.cell 1 rfl
  have fr1 := X.free 1
  have d2 := X.cell 2 rfl
  have fr2 := X.free 2
  have d3 := X.cell 3 rfl
  have fr3 := X.free 3
  have dlt := X.lt
  go_wp2
  refine name_bp fun wq hq => ?_
  have Gq : Grew w wq := by
    rw [hq]
    repeat' (first | (with_reducible exact GG) | (with_reducible refine Grew.setCell ?_ ?_ _) | (with_reducible refine Grew.alloc ?_ _) | (dsimp only; omega))
  have Bq : Blk wq (w.heap.size + 1 + 1) 24 [.int .i64 k0, .int .i64 n0, .string ⟨#[]⟩, .slice none 0 0] := by
    rw [hq]
    repeat (with_reducible refine Blk.alloc ?_ _)
    exact (Blk.set' (Blk.set' (Blk.set' (Blk.set' X 0 _ rfl) 1 _ rfl) 2 _ rfl) 3 _ rfl)
  have q0 := Bq.cell 0 rfl
  have q1 := Bq.cell 1 rfl
  have q2 := Bq.cell 2 rfl
  have q3 := Bq.cell 3 rfl
  refine bodyPost_ret (v := .tuple #[nv k0 n0, .int .i64 e0]) (by simp [results, Tryd.results45, go_sem, q0, q1, q2, q3]) rfl ⟨rfl, Gq⟩
set_option maxHeartbeats 4000000 in
theorem Evs.of14 {w0 : World} {B : Nat} {pe : Option Addr} {me ce m c : Nat} {s : ByteArray} {p : Option Addr} {e0 k0 n0 : Int} (hBw : B ≤ w0.heap.size) (h : Ds w0 B pe me ce ⟨14, 0, s, m, p, c⟩ (e0, k0, n0)) : Evs w0 B pe me ce ⟨14, 0, s, m, p, c⟩ (e0, k0, n0) := by
  intro w hB
  have K := fun W hW => hide (h W hW)
  have BB := hide hB
  clear h hB
  dsimp only [Nd.v] at K
  go_enter Tryd.func45, Tryd.ntmps45
  go_wp2_with fail
  refine name_calls fun w1 h1 => ?_
  have G1 : Grew w w1 := by rw [h1]; exact (((Grew.refl _).alloc _).alloc _).alloc _
  have b2 : Blk w1 (w.heap.size + 1 + 1) 24 [.int .i64 0, .int .i64 0, .string ⟨#[]⟩, .slice none 0 0] := by
    rw [h1]; repeat' (first | (with_reducible assumption) | ((with_reducible refine Blk.new ?_); (first | (with_reducible rfl) | (simp only [World.size_alloc, World.size_setCell, size_drewN]; done))) | (with_reducible refine Blk.alloc ?_ _) | (refine Blk.other ?_ (by omega) _) | fail)
  clear h1
  refine ((K w1 (Grew.to BB.out G1 hBw)).out).mono ?_
  rintro e w2 ⟨rfl, G2⟩
  have X := b2.grew G2
  have GG := G1.trans G2
  clear b2 G1 G2 K BB
  have d0 := X.cell 0 rfl
  have fr0 := X.free 0
  have d1 := X.cell 1 rfl
  have fr1 := X.free 1
  have d2 := X.cell 2 rfl
  have fr2 := X.free 2
  have d3 := X.cell 3 rfl
  have fr3 := X.free 3
  have dlt := X.lt
  go_wp2
  refine name_bp fun wq hq => ?_
  have Gq : Grew w wq := by
    rw [hq]
    repeat' (first | (with_reducible exact GG) | (with_reducible refine Grew.setCell ?_ ?_ _) | (with_reducible refine Grew.alloc ?_ _) | (dsimp only; omega))
  have Bq : Blk wq (w.heap.size + 1 + 1) 24 [.int .i64 k0, .int .i64 n0, .string ⟨#[]⟩, .slice none 0 0] := by
    rw [hq]
    repeat (with_reducible refine Blk.alloc ?_ _)
    exact (Blk.set' (Blk.set' (Blk.set' (Blk.set' X 0 _ rfl) 1 _ rfl) 2 _ rfl) 3 _ rfl)
  have q0 := Bq.cell 0 rfl
  have q1 := Bq.cell 1 rfl
  have q2 := Bq.cell 2 rfl
  have q3 := Bq.cell 3 rfl
  refine bodyPost_ret (v := .tuple #[nv k0 n0, .int .i64 e0]) (by simp [results, Tryd.results45, go_sem, q0, q1, q2, q3]) rfl ⟨rfl, Gq⟩
set_option maxHeartbeats 4000000 in
theorem Evs.of15 {w0 : World} {B : Nat} {pe : Option Addr} {me ce m c : Nat} {s : ByteArray} {p : Option Addr} {e0 k0 n0 : Int} (hBw : B ≤ w0.heap.size) (h : Ds w0 B pe me ce ⟨15, 0, s, m, p, c⟩ (e0, k0, n0)) : Evs w0 B pe me ce ⟨15, 0, s, m, p, c⟩ (e0, k0, n0) := by
  intro w hB
  have K := fun W hW => hide (h W hW)
  have BB := hide hB
  clear h hB
  dsimp only [Nd.v] at K
  go_enter Tryd.func45, Tryd.ntmps45
  go_wp2_with fail
  refine name_calls fun w1 h1 => ?_
  have G1 : Grew w w1 := by rw [h1]; exact (((Grew.refl _).alloc _).alloc _).alloc _
  have b2 : Blk w1 (w.heap.size + 1 + 1) 24 [.int .i64 0, .int .i64 0, .string ⟨#[]⟩, .slice none 0 0] := by
    rw [h1]; repeat' (first | (with_reducible assumption) | ((with_reducible refine Blk.new ?_); (first | (with_reducible rfl) | (simp only [World.size_alloc, World.size_setCell, size_drewN]; done))) | (with_reducible refine Blk.alloc ?_ _) | (refine Blk.other ?_ (by omega) _) | fail)
  clear h1
  refine ((K w1 (Grew.to BB.out G1 hBw)).out).mono ?_
  rintro e w2 ⟨rfl, G2⟩
  have X := b2.grew G2
  have GG := G1.trans G2
  clear b2 G1 G2 K BB
  have d0 := X.cell 0 rfl
  have fr0 := X.free 0
  have d1 := X.cell 1 rfl
  have fr1 := X.free 1
  have d2 := X.cell 2 rfl
  have fr2 := X.free 2
  have d3 := X.cell 3 rfl
  have fr3 := X.free 3
  have dlt := X.lt
  go_wp2
  refine name_bp fun wq hq => ?_
  have Gq : Grew w wq := by
    rw [hq]
    repeat' (first | (with_reducible exact GG) | (with_reducible refine Grew.setCell ?_ ?_ _) | (with_reducible refine Grew.alloc ?_ _) | (dsimp only; omega))
  have Bq : Blk wq (w.heap.size + 1 + 1) 24 [.int .i64 k0, .int .i64 n0, .string ⟨#[]⟩, .slice none 0 0] := by
    rw [hq]
    repeat (with_reducible refine Blk.alloc ?_ _)
    exact (Blk.set' (Blk.set' (Blk.set' (Blk.set' X 0 _ rfl) 1 _ rfl) 2 _ rfl) 3 _ rfl)
  have q0 := Bq.cell 0 rfl
  have q1 := Bq.cell 1 rfl
  have q2 := Bq.cell 2 rfl
  have q3 := Bq.cell 3 rfl
  refine bodyPost_ret (v := .tuple #[nv k0 n0, .int .i64 e0]) (by simp [results, Tryd.results45, go_sem, q0, q1, q2, q3]) rfl ⟨rfl, Gq⟩
end Go.Proofs.YtnhhmndnmkkhlaaDoor
