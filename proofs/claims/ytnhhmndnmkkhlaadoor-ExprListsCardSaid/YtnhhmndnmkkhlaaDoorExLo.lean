/- eval at an operator of two values, whatever they are. -/
import Derived.Test.YtnhhmndnmkkhlaaDoorExLn
namespace Go.Proofs.YtnhhmndnmkkhlaaDoor
open Go.RowKit Go.Sort
set_option linter.unusedVariables false
set_option linter.unusedSimpArgs false

/-- eval at d: kind, number, error; what holds of the list and of the world behind it, by the count of blocks at the call. -/
def EvG (w0 : World) (B : Nat) (pe : Option Addr) (me ce : Nat) (d : Nd) (kr nr er : Int) (G : Nat → Option Addr → Nat → Nat → World → Prop) : Prop :=
  ∀ w, Below B w0 w → Calls Tryd.prog 45 #[.agg #[.slice pe me ce], d.v] w fun e w' => ∃ pr mr cr, e = .returned (.tuple #[.agg #[.int .i64 kr, .int .i64 nr, .string ⟨#[]⟩, .slice pr mr cr], .int .i64 er]) ∧ G w.heap.size pr mr cr w' ∧ Grew w w'
theorem Evs.gen {w0 : World} {B : Nat} {pe : Option Addr} {me ce : Nat} {d : Nd} {r : Int × Int × Int} (h : Evs w0 B pe me ce d r) : EvG w0 B pe me ce d r.2.1 r.2.2 r.1 (fun _ p m c _ => p = none ∧ m = 0 ∧ c = 0) := by
  intro w hB
  refine (h w hB).mono ?_
  rintro e w' ⟨rfl, g⟩
  exact ⟨none, 0, 0, rfl, ⟨rfl, rfl, rfl⟩, g⟩
theorem EvG.back {w0 : World} {B : Nat} {pe : Option Addr} {me ce : Nat} {d : Nd} {kr nr er : Int} {G : Nat → Option Addr → Nat → Nat → World → Prop} (h : EvG w0 B pe me ce d kr nr er G) (hG : ∀ L p m c W, G L p m c W → p = none ∧ m = 0 ∧ c = 0) : Evs w0 B pe me ce d (er, kr, nr) := by
  intro w hB
  refine (h w hB).mono ?_
  rintro e w' ⟨p, m, c, rfl, hg, g⟩
  obtain ⟨rfl, rfl, rfl⟩ := hG _ _ _ _ _ hg
  exact ⟨rfl, g⟩
def arG (ka na : Int) (pa : Option Addr) (ma ca : Nat) (kb nb : Int) (pb : Option Addr) (mb cb : Nat) : Nat → List Value
  | 0 => [.int .i64 0, .int .i64 0, .string ⟨#[]⟩, .slice none 0 0, .int .i64 0, .int .i64 0, .string ⟨#[]⟩, .slice none 0 0]
  | 1 => [.int .i64 ka, .int .i64 na, .string ⟨#[]⟩, .slice pa ma ca, .int .i64 0, .int .i64 0, .string ⟨#[]⟩, .slice none 0 0]
  | _ => [.int .i64 ka, .int .i64 na, .string ⟨#[]⟩, .slice pa ma ca, .int .i64 kb, .int .i64 nb, .string ⟨#[]⟩, .slice pb mb cb]

set_option maxRecDepth 20000 in
set_option maxHeartbeats 4000000 in
theorem EvG.bin {w0 : World} {B : Nat} {pe : Option Addr} {me ce : Nat} {op ka na kb nb kr nr er : Int} {s : ByteArray} {c : Nat} {p : Option Addr} {f : Nat → Nd} {Ga Gb Gr : Nat → Option Addr → Nat → Nat → World → Prop} (hop : op = 11 ∨ op = 16 ∨ op = 20 ∨ op = 21) (hr : Row w0 B p 2 f) (hB0 : B ≤ w0.heap.size)
    (h0 : EvG w0 B pe me ce (f 0) ka na 0 Ga) (h1 : EvG w0 B pe me ce (f 1) kb nb 0 Gb)
    (hGa : ∀ L p m c w w', Ga L p m c w → Grew w w' → Ga L p m c w') (hSa : ∀ L p m c W b o x, Ga L p m c W → B ≤ b → b < L → Ga L p m c (W.setCell ⟨b, o, none⟩ x))
    (hGb : ∀ L p m c w w', Gb L p m c w → Grew w w' → Gb L p m c w') (hSb : ∀ L p m c W b o x, Gb L p m c W → B ≤ b → b < L → Gb L p m c (W.setCell ⟨b, o, none⟩ x))
    (hGr : ∀ L p m c w w', Gr L p m c w → Grew w w' → Gr L p m c w') (hSr : ∀ L p m c W b o x, Gr L p m c W → B ≤ b → b < L → Gr L p m c (W.setCell ⟨b, o, none⟩ x)) (hLr : ∀ L L' p m c W, Gr L p m c W → L' ≤ L → Gr L' p m c W)
    (KO : ∀ W pp pa ma ca pb mb cb La Lb, Below B w0 W → B ≤ W.heap.size → Ga La pa ma ca W → Gb Lb pb mb cb W → TwoG W pp ka na pa ma ca kb nb pb mb cb → Hid (Calls Tryd.prog 60 #[.int .i64 op, .slice pp 2 2] W fun e w' => ∃ pr mr cr, e = .returned (.tuple #[.agg #[.int .i64 kr, .int .i64 nr, .string ⟨#[]⟩, .slice pr mr cr], .int .i64 er]) ∧ Gr W.heap.size pr mr cr w' ∧ Grew W w')) :
    EvG w0 B pe me ce ⟨op, 0, s, 2, p, c⟩ kr nr er Gr := by
  intro w hB
  have e1 : (op == 1) = false := by simp; omega
  have e2 : (op == 2) = false := by simp; omega
  have e3 : (op == 3) = false := by simp; omega
  have e4 : (op == 4) = false := by simp; omega
  have e5 : (op == 13) = false := by simp; omega
  have e6 : (op == 14) = false := by simp; omega
  have e7 : (op == 15) = false := by simp; omega
  have HB := hide hB
  have HR := hide (hr.below hB)
  have H0 := hide h0
  have H1 := hide h1
  have hBs : B ≤ w.heap.size := Nat.le_trans hB0 hB.size
  clear hB hr h0 h1 hop
  go_enter Tryd.func45, Tryd.ntmps45
  have hmk := make_value2 (((w.alloc (.cells #[.slice pe me ce] 82)).alloc (.cells #[.int .i64 op, .int .i64 0, .string s, .slice p 2 c] 58)).alloc (.cells #[.int .i64 0, .int .i64 0, .string ⟨#[]⟩, .slice none 0 0] 24))
  simp only [World.size_alloc] at hmk
  go_wp2
  clear hmk
  refine name_world fun w1 h1 => ?_
  have b0 : Hid (Blk w1 w.heap.size 82 [.slice pe me ce]) := by
    refine hide ?_; rw [h1]; repeat' (first | (with_reducible assumption) | ((with_reducible refine Blk.new ?_); (first | (with_reducible rfl) | (simp only [World.size_alloc, World.size_setCell, size_drewN]; done))) | (with_reducible refine Blk.alloc ?_ _) | (refine Blk.other ?_ (by omega) _) | fail)
  have b1 : Hid (Blk w1 (w.heap.size + 1) 58 [.int .i64 op, .int .i64 0, .string s, .slice p 2 c]) := by
    refine hide ?_; rw [h1]; repeat' (first | (with_reducible assumption) | ((with_reducible refine Blk.new ?_); (first | (with_reducible rfl) | (simp only [World.size_alloc, World.size_setCell, size_drewN]; done))) | (with_reducible refine Blk.alloc ?_ _) | (refine Blk.other ?_ (by omega) _) | fail)
  have b2 : Hid (Blk w1 (w.heap.size + 1 + 1) 24 [.int .i64 0, .int .i64 0, .string ⟨#[]⟩, .slice none 0 0]) := by
    refine hide ?_; rw [h1]; repeat' (first | (with_reducible assumption) | ((with_reducible refine Blk.new ?_); (first | (with_reducible rfl) | (simp only [World.size_alloc, World.size_setCell, size_drewN]; done))) | (with_reducible refine Blk.alloc ?_ _) | (refine Blk.other ?_ (by omega) _) | fail)
  have b3 : Hid (Blk w1 (w.heap.size + 1 + 1 + 1) 24 (arG ka na none 0 0 kb nb none 0 0 0)) := by
    refine hide (?_ : Blk w1 (w.heap.size + 1 + 1 + 1) 24 (arG ka na none 0 0 kb nb none 0 0 0))
    show Blk w1 (w.heap.size + 1 + 1 + 1) 24 [.int .i64 0, .int .i64 0, .string ⟨#[]⟩, .slice none 0 0, .int .i64 0, .int .i64 0, .string ⟨#[]⟩, .slice none 0 0]
    rw [h1]; repeat' (first | (with_reducible assumption) | ((with_reducible refine Blk.new ?_); (first | (with_reducible rfl) | (simp only [World.size_alloc, World.size_setCell, size_drewN]; done))) | (with_reducible refine Blk.alloc ?_ _) | (refine Blk.other ?_ (by omega) _) | fail)
  have G1 : Hid (Grew w w1) := by rw [h1]; exact ((((Grew.refl _).alloc _).alloc _).alloc _).alloc _
  clear h1
  have c3 := b1.out.cell 3 rfl
  go_wp2
  clear c3
  go_loopg [53] 3 (fun gh vk wr => ∃ (i : Nat) (pa pb : Option Addr) (ma ca mb cb La Lb : Nat), vk = .int .i64 (i : Int) ∧ i ≤ 2 ∧ 2 - i < gh ∧ Hid (1 ≤ i → w.heap.size + 1 + 1 + 1 < La ∧ Ga La pa ma ca wr) ∧ Hid (2 ≤ i → w.heap.size + 1 + 1 + 1 < Lb ∧ Gb Lb pb mb cb wr) ∧ Hid (Grew w wr) ∧ Hid (Blk wr w.heap.size 82 [.slice pe me ce]) ∧ Hid (Blk wr (w.heap.size + 1) 58 [.int .i64 op, .int .i64 0, .string s, .slice p 2 c]) ∧ Hid (Blk wr (w.heap.size + 1 + 1) 24 [.int .i64 0, .int .i64 0, .string ⟨#[]⟩, .slice none 0 0]) ∧ Hid (Blk wr (w.heap.size + 1 + 1 + 1) 24 (arG ka na pa ma ca kb nb pb mb cb i)))
  case atStart => exact ⟨0, none, none, 0, 0, 0, 0, 0, 0, by go_num, by omega, by omega, hide (fun h => absurd h (by omega)), hide (fun h => absurd h (by omega)), G1, b0, b1, b2, b3⟩
  case round =>
    clear b0 b1 b2 b3 G1
    obtain ⟨wo, rfl⟩ : ∃ wo : World, wo = wr := ⟨_, rfl⟩
    obtain ⟨i, pa, pb, ma, ca, mb, cb, La, Lb, rfl, hi, hgh, D1, D2, G, V0, V1, V2, V3⟩ := hrel
    by_cases h2 : i = 2
    · subst h2
      have A : Blk wo (w.heap.size + 1 + 1 + 1) 24 [.int .i64 ka, .int .i64 na, .string ⟨#[]⟩, .slice pa ma ca, .int .i64 kb, .int .i64 nb, .string ⟨#[]⟩, .slice pb mb cb] := V3.out
      have T : TwoG wo (some ⟨w.heap.size + 1 + 1 + 1, 0, none⟩) ka na pa ma ca kb nb pb mb cb := ⟨_, 0, rfl, A.lt, ⟨A.cell 0 rfl, A.cell 1 rfl, A.cell 2 rfl, A.cell 3 rfl⟩, A.cell 4 rfl, A.cell 5 rfl, A.cell 6 rfl, A.cell 7 rfl⟩
      have BB : Below B w0 wo := Grew.to HB.out G.out hB0
      have KO' := KO _ _ _ _ _ _ _ _ _ _ BB (Nat.le_trans hBs G.out.size) (D1.out (by omega)).2 (D2.out (by omega)).2 T
      have c0 := V1.out.cell 0 rfl
      have B2 := V2.out
      have hlo := A.lt
      clear V0 V3 V2 H0 H1 A HR HB BB KO D1 D2 T
      go_wp2_with fail
      refine (KO'.out).mono ?_
      rintro e w3 ⟨pr, mr, cr, rfl, DR, G3⟩
      have DR' := hide DR
      have X := B2.grew G3
      have GG := G.out.trans G3
      have szo := G.out.size
      clear B2 G3 G V1 c0 KO' DR
      have d0 := X.cell 0 rfl
      have fr0 := X.free 0
      have d1 := X.cell 1 rfl
      have fr1 := X.free 1
      have d2 := X.cell 2 rfl
      have fr2 := X.free 2
      have d3 := X.cell 3 rfl
      have fr3 := X.free 3
      have dlt := X.lt
      go_wp2
      refine name_bp fun wq hq => ?_
      have Gq : Grew w wq := by
        rw [hq]
        repeat' (first | (with_reducible exact GG) | (with_reducible refine Grew.setCell ?_ ?_ _) | (with_reducible refine Grew.alloc ?_ _) | (dsimp only; omega))
      have Bq : Blk wq (w.heap.size + 1 + 1) 24 [.int .i64 kr, .int .i64 nr, .string ⟨#[]⟩, .slice pr mr cr] := by
        rw [hq]
        repeat (with_reducible refine Blk.alloc ?_ _)
        exact ((((X.set' 0 _ rfl).set' 1 _ rfl).set' 2 _ rfl).set' 3 _ rfl)
      have Dq : Gr wo.heap.size pr mr cr wq := by
        rw [hq]
        repeat' (first | (with_reducible exact DR'.out) | (with_reducible refine hSr _ _ _ _ _ _ _ _ ?_ ?_ ?_) | (with_reducible refine hGr _ _ _ _ _ _ ?_ ((Grew.refl _).alloc _)) | omega | (dsimp only; omega))
      have q0 := Bq.cell 0 rfl
      have q1 := Bq.cell 1 rfl
      have q2 := Bq.cell 2 rfl
      have q3 := Bq.cell 3 rfl
      exact bodyPost_ret (v := .tuple #[.agg #[.int .i64 kr, .int .i64 nr, .string ⟨#[]⟩, .slice pr mr cr], .int .i64 er]) (by simp [results, Tryd.results45, go_sem, q0, q1, q2, q3]) rfl ⟨pr, mr, cr, rfl, hLr _ _ _ _ _ _ Dq szo, Gq⟩
    · by_cases h0 : i = 0
      · subst h0
        replace V3 : Hid (Blk wo (w.heap.size + 1 + 1 + 1) 24 (arG ka na none 0 0 kb nb none 0 0 0)) := V3
        clear D1 D2
        clear pa ma ca La
        have BB : Below B w0 wo := Grew.to HB.out G.out hB0
        obtain ⟨bb, off, rfl, hbl, hcs⟩ := (HR.out.below (G.out.1.mono hBs)) (by omega)
        obtain ⟨x0, x1, x2, x3⟩ := hcs 0 (by omega)
        clear hcs
        have KC := fun W hW => hide (H0.out W hW)
        generalize f 0 = x at *
        obtain ⟨xk, xn, xs, xm, xp, xc⟩ := x
        dsimp only at x0 x1 x2 x3 KC
        simp only [Nat.zero_mul, Nat.add_zero, Nat.one_mul] at x0 x1 x2 x3
        have c0 := V0.out.cell 0 rfl
        have hl0 := V0.out.lt
        have hl3 := V3.out.lt
        clear KO
        go_wp2_with fail
        refine name_calls fun w4 h4 => ?_
        have G4 : Grew wo w4 := by rw [h4]; exact (Grew.refl _).alloc _
        clear h4
        refine ((KC w4 (Grew.to BB G4 hB0)).out).mono ?_
        rintro e w5 ⟨pa, ma, ca, rfl, DN, G5⟩
        have G6 := G4.trans G5
        have hL4 : w.heap.size + 1 + 1 + 1 < w4.heap.size := Nat.lt_of_lt_of_le hl3 G4.size
        generalize w4.heap.size = L4 at DN hL4
        have DN' := hide DN
        have Y0 := hide (V0.out.grew G6)
        have Y1 := hide (V1.out.grew G6)
        have Y2 := hide (V2.out.grew G6)
        have Y3 := V3.out.grew G6
        have GG := G.out.trans G6
        clear DN V0 V1 V2 V3 G G4 G5 G6 BB x0 x1 x2 x3 c0 KC H0 H1
        dsimp only [arG] at Y3
        have d0 := Y3.cell 0 rfl
        have fr0 := Y3.free 0
        have d1 := Y3.cell 1 rfl
        have fr1 := Y3.free 1
        have d2 := Y3.cell 2 rfl
        have fr2 := Y3.free 2
        have d3 := Y3.cell 3 rfl
        have fr3 := Y3.free 3
        have d4 := Y3.cell 4 rfl
        have fr4 := Y3.free 4
        have d5 := Y3.cell 5 rfl
        have fr5 := Y3.free 5
        have d6 := Y3.cell 6 rfl
        have fr6 := Y3.free 6
        have d7 := Y3.cell 7 rfl
        have fr7 := Y3.free 7
        have dlt := Y3.lt
        have sz := GG.size
        go_wp2
        go_roundg 2
        case measure => omega
        case rel =>
          refine ⟨1, pa, pb, ma, ca, mb, cb, L4, Lb, by go_num, by omega, by omega, hide (fun _ => ?_), hide (fun _ => ?_), ?_, ?_, ?_, ?_, ?_⟩
          · refine ⟨hL4, ?_⟩
            repeat' (first | (with_reducible exact DN'.out) | (with_reducible refine hSa _ _ _ _ _ _ _ _ ?_ ?_ ?_) | (with_reducible refine hGa _ _ _ _ _ _ ?_ ((Grew.refl _).alloc _)) | omega | (dsimp only; omega))
          · exact absurd (by assumption) (by omega)
          · refine hide ?_
            repeat' (first | (with_reducible exact GG) | (with_reducible refine Grew.setCell ?_ ?_ _) | (with_reducible refine Grew.alloc ?_ _) | (dsimp only; omega))
          · exact hide (by repeat' (first | (with_reducible exact Y0.out) | (with_reducible refine Blk.alloc ?_ _) | (refine Blk.other ?_ (by omega) _)))
          · exact hide (by repeat' (first | (with_reducible exact Y1.out) | (with_reducible refine Blk.alloc ?_ _) | (refine Blk.other ?_ (by omega) _)))
          · exact hide (by repeat' (first | (with_reducible exact Y2.out) | (with_reducible refine Blk.alloc ?_ _) | (refine Blk.other ?_ (by omega) _)))
          · refine hide ?_
            repeat (with_reducible refine Blk.alloc ?_ _)
            exact (((Y3.set' 0 _ rfl).set' 1 _ rfl).set' 2 _ rfl).set' 3 _ rfl
      · obtain rfl : i = 1 := by omega
        replace V3 : Hid (Blk wo (w.heap.size + 1 + 1 + 1) 24 (arG ka na pa ma ca kb nb none 0 0 1)) := V3
        clear D2
        clear pb mb cb Lb
        have BB : Below B w0 wo := Grew.to HB.out G.out hB0
        have DA := hide (D1.out (by omega))
        obtain ⟨bb, off, rfl, hbl, hcs⟩ := (HR.out.below (G.out.1.mono hBs)) (by omega)
        obtain ⟨x0, x1, x2, x3⟩ := hcs 1 (by omega)
        clear hcs
        have KC := fun W hW => hide (H1.out W hW)
        generalize f 1 = x at *
        obtain ⟨xk, xn, xs, xm, xp, xc⟩ := x
        dsimp only at x0 x1 x2 x3 KC
        simp only [Nat.zero_mul, Nat.add_zero, Nat.one_mul] at x0 x1 x2 x3
        have c0 := V0.out.cell 0 rfl
        have hl0 := V0.out.lt
        have hl3 := V3.out.lt
        clear KO
        go_wp2_with fail
        refine name_calls fun w4 h4 => ?_
        have G4 : Grew wo w4 := by rw [h4]; exact (Grew.refl _).alloc _
        clear h4
        refine ((KC w4 (Grew.to BB G4 hB0)).out).mono ?_
        rintro e w5 ⟨pb, mb, cb, rfl, DN, G5⟩
        have G6 := G4.trans G5
        have hL4 : w.heap.size + 1 + 1 + 1 < w4.heap.size := Nat.lt_of_lt_of_le hl3 G4.size
        generalize w4.heap.size = L4 at DN hL4
        have DN' := hide DN
        have DA2 := hide (hGa _ _ _ _ _ _ DA.out.2 G6)
        have hLa := DA.out.1
        clear DA
        have Y0 := hide (V0.out.grew G6)
        have Y1 := hide (V1.out.grew G6)
        have Y2 := hide (V2.out.grew G6)
        have Y3 := V3.out.grew G6
        have GG := G.out.trans G6
        clear DN V0 V1 V2 V3 G G4 G5 G6 BB x0 x1 x2 x3 c0 KC H0 H1
        dsimp only [arG] at Y3
        have d0 := Y3.cell 0 rfl
        have fr0 := Y3.free 0
        have d1 := Y3.cell 1 rfl
        have fr1 := Y3.free 1
        have d2 := Y3.cell 2 rfl
        have fr2 := Y3.free 2
        have d3 := Y3.cell 3 rfl
        have fr3 := Y3.free 3
        have d4 := Y3.cell 4 rfl
        have fr4 := Y3.free 4
        have d5 := Y3.cell 5 rfl
        have fr5 := Y3.free 5
        have d6 := Y3.cell 6 rfl
        have fr6 := Y3.free 6
        have d7 := Y3.cell 7 rfl
        have fr7 := Y3.free 7
        have dlt := Y3.lt
        have sz := GG.size
        go_wp2
        go_roundg 1
        case measure => omega
        case rel =>
          refine ⟨2, pa, pb, ma, ca, mb, cb, La, L4, by go_num, by omega, by omega, hide (fun _ => ?_), hide (fun _ => ?_), ?_, ?_, ?_, ?_, ?_⟩
          · refine ⟨hLa, ?_⟩
            repeat' (first | (with_reducible exact DA2.out) | (with_reducible refine hSa _ _ _ _ _ _ _ _ ?_ ?_ ?_) | (with_reducible refine hGa _ _ _ _ _ _ ?_ ((Grew.refl _).alloc _)) | omega | (dsimp only; omega))
          · refine ⟨hL4, ?_⟩
            repeat' (first | (with_reducible exact DN'.out) | (with_reducible refine hSb _ _ _ _ _ _ _ _ ?_ ?_ ?_) | (with_reducible refine hGb _ _ _ _ _ _ ?_ ((Grew.refl _).alloc _)) | omega | (dsimp only; omega))
          · refine hide ?_
            repeat' (first | (with_reducible exact GG) | (with_reducible refine Grew.setCell ?_ ?_ _) | (with_reducible refine Grew.alloc ?_ _) | (dsimp only; omega))
          · exact hide (by repeat' (first | (with_reducible exact Y0.out) | (with_reducible refine Blk.alloc ?_ _) | (refine Blk.other ?_ (by omega) _)))
          · exact hide (by repeat' (first | (with_reducible exact Y1.out) | (with_reducible refine Blk.alloc ?_ _) | (refine Blk.other ?_ (by omega) _)))
          · exact hide (by repeat' (first | (with_reducible exact Y2.out) | (with_reducible refine Blk.alloc ?_ _) | (refine Blk.other ?_ (by omega) _)))
          · refine hide ?_
            repeat (with_reducible refine Blk.alloc ?_ _)
            exact (((Y3.set' 4 _ rfl).set' 5 _ rfl).set' 6 _ rfl).set' 7 _ rfl
end Go.Proofs.YtnhhmndnmkkhlaaDoor
