/- eval at operators of two ints: both operands have values, or the first one has an error. -/
import Derived.Test.YtnhhmndnmkkhlaaDoorExL
namespace Go.Proofs.YtnhhmndnmkkhlaaDoor
open Go.RowKit Go.Sort
set_option linter.unusedVariables false
set_option linter.unusedSimpArgs false

def arL (k0 n0 k1 n1 : Int) : Nat → List Value
  | 0 => [.int .i64 0, .int .i64 0, .string ⟨#[]⟩, .slice none 0 0, .int .i64 0, .int .i64 0, .string ⟨#[]⟩, .slice none 0 0]
  | 1 => [.int .i64 k0, .int .i64 n0, .string ⟨#[]⟩, .slice none 0 0, .int .i64 0, .int .i64 0, .string ⟨#[]⟩, .slice none 0 0]
  | _ => [.int .i64 k0, .int .i64 n0, .string ⟨#[]⟩, .slice none 0 0, .int .i64 k1, .int .i64 n1, .string ⟨#[]⟩, .slice none 0 0]
/-- The operators of two numbers; 10 is less. -/
def Op6 (op : Int) : Prop := 5 ≤ op ∧ op ≤ 10
theorem Op5.six {op : Int} (h : Op5 op) : Op6 op := by unfold Op6; rcases h with rfl | rfl | rfl | rfl | rfl <;> omega

set_option maxRecDepth 20000 in
set_option maxHeartbeats 4000000 in
theorem Evs.bin {w0 : World} {B : Nat} {pe : Option Addr} {me ce : Nat} {op k0 n0 k1 n1 : Int} {s : ByteArray} {c : Nat} {p : Option Addr} {f : Nat → Nd} (hop : Op5 op) (hr : Row w0 B p 2 f) (hB0 : B ≤ w0.heap.size)
    (h0 : Evs w0 B pe me ce (f 0) (0, k0, n0)) (h1 : Evs w0 B pe me ce (f 1) (0, k1, n1)) (v0 : Vf k0 n0) (v1 : Vf k1 n1) : Evs w0 B pe me ce ⟨op, 0, s, 2, p, c⟩ (opR op k0 n0 k1 n1) := by
  intro w hB
  have KO := fun pp W hW => hide (operate_five op k0 n0 k1 n1 pp 2 W hop v0 v1 hW)
  have e1 : (op == 1) = false := by have := hop.six; unfold Op6 at this; simp; omega
  have e2 : (op == 2) = false := by have := hop.six; unfold Op6 at this; simp; omega
  have e3 : (op == 3) = false := by have := hop.six; unfold Op6 at this; simp; omega
  have e4 : (op == 4) = false := by have := hop.six; unfold Op6 at this; simp; omega
  have e5 : (op == 13) = false := by have := hop.six; unfold Op6 at this; simp; omega
  have e6 : (op == 14) = false := by have := hop.six; unfold Op6 at this; simp; omega
  have e7 : (op == 15) = false := by have := hop.six; unfold Op6 at this; simp; omega
  have HB := hide hB
  have HR := hide (hr.below hB)
  have H0 := hide h0
  have H1 := hide h1
  have hBs : B ≤ w.heap.size := Nat.le_trans hB0 hB.size
  generalize hv : opR op k0 n0 k1 n1 = R at *
  obtain ⟨R0, R1, R2⟩ := R
  dsimp only at KO ⊢
  clear hv hB hr h0 h1 v0 v1 hop
  go_enter Tryd.func45, Tryd.ntmps45
  have hmk := make_value2 (((w.alloc (.cells #[.slice pe me ce] 82)).alloc (.cells #[.int .i64 op, .int .i64 0, .string s, .slice p 2 c] 58)).alloc (.cells #[.int .i64 0, .int .i64 0, .string ⟨#[]⟩, .slice none 0 0] 24))
  simp only [World.size_alloc] at hmk
  go_wp2
  clear hmk
  refine name_world fun w1 h1 => ?_
  have b0 : Hid (Blk w1 w.heap.size 82 [.slice pe me ce]) := by
    refine hide ?_; rw [h1]; repeat' (first | (with_reducible assumption) | ((with_reducible refine Blk.new ?_); (first | (with_reducible rfl) | (simp only [World.size_alloc, World.size_setCell, size_drewN]; done))) | (with_reducible refine Blk.alloc ?_ _) | (refine Blk.other ?_ (by omega) _) | fail)
  have b1 : Hid (Blk w1 (w.heap.size + 1) 58 [.int .i64 op, .int .i64 0, .string s, .slice p 2 c]) := by
    refine hide ?_; rw [h1]; repeat' (first | (with_reducible assumption) | ((with_reducible refine Blk.new ?_); (first | (with_reducible rfl) | (simp only [World.size_alloc, World.size_setCell, size_drewN]; done))) | (with_reducible refine Blk.alloc ?_ _) | (refine Blk.other ?_ (by omega) _) | fail)
  have b2 : Hid (Blk w1 (w.heap.size + 1 + 1) 24 [.int .i64 0, .int .i64 0, .string ⟨#[]⟩, .slice none 0 0]) := by
    refine hide ?_; rw [h1]; repeat' (first | (with_reducible assumption) | ((with_reducible refine Blk.new ?_); (first | (with_reducible rfl) | (simp only [World.size_alloc, World.size_setCell, size_drewN]; done))) | (with_reducible refine Blk.alloc ?_ _) | (refine Blk.other ?_ (by omega) _) | fail)
  have b3 : Hid (Blk w1 (w.heap.size + 1 + 1 + 1) 24 (arL k0 n0 k1 n1 0)) := by
    refine hide (?_ : Blk w1 (w.heap.size + 1 + 1 + 1) 24 (arL k0 n0 k1 n1 0))
    show Blk w1 (w.heap.size + 1 + 1 + 1) 24 [.int .i64 0, .int .i64 0, .string ⟨#[]⟩, .slice none 0 0, .int .i64 0, .int .i64 0, .string ⟨#[]⟩, .slice none 0 0]
    rw [h1]; repeat' (first | (with_reducible assumption) | ((with_reducible refine Blk.new ?_); (first | (with_reducible rfl) | (simp only [World.size_alloc, World.size_setCell, size_drewN]; done))) | (with_reducible refine Blk.alloc ?_ _) | (refine Blk.other ?_ (by omega) _) | fail)
  have G1 : Hid (Grew w w1) := by rw [h1]; exact ((((Grew.refl _).alloc _).alloc _).alloc _).alloc _
  clear h1
  have c3 := b1.out.cell 3 rfl
  go_wp2
  clear c3
  go_loopg [53] 3 (fun gh vk wr => ∃ (i : Nat), vk = .int .i64 (i : Int) ∧ i ≤ 2 ∧ 2 - i < gh ∧ Hid (Grew w wr) ∧ Hid (Blk wr w.heap.size 82 [.slice pe me ce]) ∧ Hid (Blk wr (w.heap.size + 1) 58 [.int .i64 op, .int .i64 0, .string s, .slice p 2 c]) ∧ Hid (Blk wr (w.heap.size + 1 + 1) 24 [.int .i64 0, .int .i64 0, .string ⟨#[]⟩, .slice none 0 0]) ∧ Hid (Blk wr (w.heap.size + 1 + 1 + 1) 24 (arL k0 n0 k1 n1 i)))
  case atStart => exact ⟨0, by go_num, by omega, by omega, G1, b0, b1, b2, b3⟩
  case round =>
    clear b0 b1 b2 b3 G1
    obtain ⟨wo, rfl⟩ : ∃ wo : World, wo = wr := ⟨_, rfl⟩
    obtain ⟨i, rfl, hi, hgh, G, V0, V1, V2, V3⟩ := hrel
    by_cases h2 : i = 2
    · subst h2
      have A : Blk wo (w.heap.size + 1 + 1 + 1) 24 [.int .i64 k0, .int .i64 n0, .string ⟨#[]⟩, .slice none 0 0, .int .i64 k1, .int .i64 n1, .string ⟨#[]⟩, .slice none 0 0] := V3.out
      have T : Two wo (some ⟨w.heap.size + 1 + 1 + 1, 0, none⟩) k0 n0 k1 n1 := ⟨_, 0, rfl, A.lt, ⟨A.cell 0 rfl, A.cell 1 rfl, A.cell 2 rfl, A.cell 3 rfl⟩, A.cell 4 rfl, A.cell 5 rfl, A.cell 6 rfl, A.cell 7 rfl⟩
      have c0 := V1.out.cell 0 rfl
      have B2 := V2.out
      clear V0 V3 V2 H0 H1 A HR HB
      go_wp2_with fail
      refine ((KO _ _ T).out).mono ?_
      rintro e w3 ⟨rfl, G3⟩
      have X := B2.grew G3
      have GG := G.out.trans G3
      clear B2 G3 G V1 c0 T KO
      have d0 := X.cell 0 rfl
      have fr0 := X.free 0
      have d1 := X.cell 1 rfl
      have fr1 := X.free 1
      have d2 := X.cell 2 rfl
      have fr2 := X.free 2
      have d3 := X.cell 3 rfl
      have fr3 := X.free 3
      have dlt := X.lt
      go_wp2
      refine name_bp fun wq hq => ?_
      have Gq : Grew w wq := by
        rw [hq]
        repeat' (first | (with_reducible exact GG) | (with_reducible refine Grew.setCell ?_ ?_ _) | (with_reducible refine Grew.alloc ?_ _) | (dsimp only; omega))
      have Bq : Blk wq (w.heap.size + 1 + 1) 24 [.int .i64 R1, .int .i64 R2, .string ⟨#[]⟩, .slice none 0 0] := by
        rw [hq]
        repeat (with_reducible refine Blk.alloc ?_ _)
        exact (Blk.set' (Blk.set' (Blk.set' (Blk.set' X 0 _ rfl) 1 _ rfl) 2 _ rfl) 3 _ rfl)
      have q0 := Bq.cell 0 rfl
      have q1 := Bq.cell 1 rfl
      have q2 := Bq.cell 2 rfl
      have q3 := Bq.cell 3 rfl
      refine bodyPost_ret (v := .tuple #[nv R1 R2, .int .i64 R0]) (by simp [results, Tryd.results45, go_sem, q0, q1, q2, q3]) rfl ⟨rfl, Gq⟩
    · by_cases h0 : i = 0
      · subst h0
        have BB : Below B w0 wo := Grew.to HB.out G.out hB0
        obtain ⟨bb, off, rfl, hbl, hcs⟩ := (HR.out.below (G.out.1.mono hBs)) (by omega)
        obtain ⟨x0, x1, x2, x3⟩ := hcs 0 (by omega)
        clear hcs
        have KC := fun W hW => hide (H0.out W hW)
        generalize f 0 = x at *
        obtain ⟨xk, xn, xs, xm, xp, xc⟩ := x
        dsimp only at x0 x1 x2 x3 KC
        simp only [Nat.zero_mul, Nat.add_zero, Nat.one_mul] at x0 x1 x2 x3
        have c0 := V0.out.cell 0 rfl
        have hl0 := V0.out.lt
        go_wp2_with fail
        refine name_calls fun w4 h4 => ?_
        have G4 : Grew wo w4 := by rw [h4]; exact (Grew.refl _).alloc _
        clear h4
        refine ((KC w4 (Grew.to BB G4 hB0)).out).mono ?_
        rintro e w5 ⟨rfl, G5⟩
        have G6 := G4.trans G5
        have Y0 := hide (V0.out.grew G6)
        have Y1 := hide (V1.out.grew G6)
        have Y2 := hide (V2.out.grew G6)
        have Y3 := V3.out.grew G6
        have GG := G.out.trans G6
        clear V0 V1 V2 V3 G G4 G5 G6 BB x0 x1 x2 x3 c0 KC H0 H1
        dsimp only [arL] at Y3
        have d0 := Y3.cell 0 rfl
        have fr0 := Y3.free 0
        have d1 := Y3.cell 1 rfl
        have fr1 := Y3.free 1
        have d2 := Y3.cell 2 rfl
        have fr2 := Y3.free 2
        have d3 := Y3.cell 3 rfl
        have fr3 := Y3.free 3
        have d4 := Y3.cell 4 rfl
        have fr4 := Y3.free 4
        have d5 := Y3.cell 5 rfl
        have fr5 := Y3.free 5
        have d6 := Y3.cell 6 rfl
        have fr6 := Y3.free 6
        have d7 := Y3.cell 7 rfl
        have fr7 := Y3.free 7
        have dlt := Y3.lt
        have sz := GG.size
        go_wp2
        go_roundg 2
        case measure => omega
        case rel =>
          refine ⟨1, by go_num, by omega, by omega, ?_, ?_, ?_, ?_, ?_⟩
          · refine hide ?_
            repeat' (first | (with_reducible exact GG) | (with_reducible refine Grew.setCell ?_ ?_ _) | (with_reducible refine Grew.alloc ?_ _) | (dsimp only; omega))
          · exact hide (by repeat' (first | (with_reducible exact Y0.out) | (with_reducible refine Blk.alloc ?_ _) | (refine Blk.other ?_ (by omega) _)))
          · exact hide (by repeat' (first | (with_reducible exact Y1.out) | (with_reducible refine Blk.alloc ?_ _) | (refine Blk.other ?_ (by omega) _)))
          · exact hide (by repeat' (first | (with_reducible exact Y2.out) | (with_reducible refine Blk.alloc ?_ _) | (refine Blk.other ?_ (by omega) _)))
          · refine hide ?_
            repeat (with_reducible refine Blk.alloc ?_ _)
            exact (((Y3.set' 0 _ rfl).set' 1 _ rfl).set' 2 _ rfl).set' 3 _ rfl
      · obtain rfl : i = 1 := by omega
        have BB : Below B w0 wo := Grew.to HB.out G.out hB0
        obtain ⟨bb, off, rfl, hbl, hcs⟩ := (HR.out.below (G.out.1.mono hBs)) (by omega)
        obtain ⟨x0, x1, x2, x3⟩ := hcs 1 (by omega)
        clear hcs
        have KC := fun W hW => hide (H1.out W hW)
        generalize f 1 = x at *
        obtain ⟨xk, xn, xs, xm, xp, xc⟩ := x
        dsimp only at x0 x1 x2 x3 KC
        simp only [Nat.zero_mul, Nat.add_zero, Nat.one_mul] at x0 x1 x2 x3
        have c0 := V0.out.cell 0 rfl
        have hl0 := V0.out.lt
        go_wp2_with fail
        refine name_calls fun w4 h4 => ?_
        have G4 : Grew wo w4 := by rw [h4]; exact (Grew.refl _).alloc _
        clear h4
        refine ((KC w4 (Grew.to BB G4 hB0)).out).mono ?_
        rintro e w5 ⟨rfl, G5⟩
        have G6 := G4.trans G5
        have Y0 := hide (V0.out.grew G6)
        have Y1 := hide (V1.out.grew G6)
        have Y2 := hide (V2.out.grew G6)
        have Y3 := V3.out.grew G6
        have GG := G.out.trans G6
        clear V0 V1 V2 V3 G G4 G5 G6 BB x0 x1 x2 x3 c0 KC H0 H1
        dsimp only [arL] at Y3
        have d0 := Y3.cell 0 rfl
        have fr0 := Y3.free 0
        have d1 := Y3.cell 1 rfl
        have fr1 := Y3.free 1
        have d2 := Y3.cell 2 rfl
        have fr2 := Y3.free 2
        have d3 := Y3.cell 3 rfl
        have fr3 := Y3.free 3
        have d4 := Y3.cell 4 rfl
        have fr4 := Y3.free 4
        have d5 := Y3.cell 5 rfl
        have fr5 := Y3.free 5
        have d6 := Y3.cell 6 rfl
        have fr6 := Y3.free 6
        have d7 := Y3.cell 7 rfl
        have fr7 := Y3.free 7
        have dlt := Y3.lt
        have sz := GG.size
        go_wp2
        go_roundg 1
        case measure => omega
        case rel =>
          refine ⟨2, by go_num, by omega, by omega, ?_, ?_, ?_, ?_, ?_⟩
          · refine hide ?_
            repeat' (first | (with_reducible exact GG) | (with_reducible refine Grew.setCell ?_ ?_ _) | (with_reducible refine Grew.alloc ?_ _) | (dsimp only; omega))
          · exact hide (by repeat' (first | (with_reducible exact Y0.out) | (with_reducible refine Blk.alloc ?_ _) | (refine Blk.other ?_ (by omega) _)))
          · exact hide (by repeat' (first | (with_reducible exact Y1.out) | (with_reducible refine Blk.alloc ?_ _) | (refine Blk.other ?_ (by omega) _)))
          · exact hide (by repeat' (first | (with_reducible exact Y2.out) | (with_reducible refine Blk.alloc ?_ _) | (refine Blk.other ?_ (by omega) _)))
          · refine hide ?_
            repeat (with_reducible refine Blk.alloc ?_ _)
            exact (((Y3.set' 4 _ rfl).set' 5 _ rfl).set' 6 _ rfl).set' 7 _ rfl
end Go.Proofs.YtnhhmndnmkkhlaaDoor
