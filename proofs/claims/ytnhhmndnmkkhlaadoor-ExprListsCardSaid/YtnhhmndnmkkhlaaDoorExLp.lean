/- eval at a variable with a list; Eval at whatever bindings. -/
import Derived.Test.YtnhhmndnmkkhlaaDoorExLo
namespace Go.Proofs.YtnhhmndnmkkhlaaDoor
open Go.RowKit Go.Sort
set_option linter.unusedVariables false
set_option linter.unusedSimpArgs false

set_option maxRecDepth 20000 in
set_option maxHeartbeats 4000000 in
theorem EvG.var0 {w0 : World} {B : Nat} {pe : Option Addr} {me ce : Nat} {n k1 n1 : Int} {s : ByteArray} {m c m1 c1 : Nat} {p p1 : Option Addr} {g : Nat → Bd} (hm : me ≤ 1000000) (hL : BRow w0 B pe me g) (hB0 : B ≤ w0.heap.size)
    (hl : lkF g s me = some ⟨k1, n1, ⟨#[]⟩, m1, p1, c1⟩) : EvG w0 B pe me ce ⟨4, n, s, m, p, c⟩ k1 n1 0 (fun _ p m c _ => p = p1 ∧ m = m1 ∧ c = c1) := by
  intro w hB
  have KA := fun W hW => hide (variable_any pe me ce g s hm W hW)
  rw [hl] at KA
  have HB := hide hB
  have HL := hide ((hL.below hB).mono (Nat.le_trans hB0 hB.size))
  clear hB hL
  go_enter Tryd.func45, Tryd.ntmps45
  go_wp2_with fail
  refine name_calls fun w1 h1 => ?_
  have G1 : Grew w w1 := by rw [h1]; exact (((Grew.refl _).alloc _).alloc _).alloc _
  have b2 : Blk w1 (w.heap.size + 1 + 1) 24 [.int .i64 0, .int .i64 0, .string ⟨#[]⟩, .slice none 0 0] := by
    rw [h1]; repeat' (first | (with_reducible assumption) | ((with_reducible refine Blk.new ?_); (first | (with_reducible rfl) | (simp only [World.size_alloc, World.size_setCell, size_drewN]; done))) | (with_reducible refine Blk.alloc ?_ _) | (refine Blk.other ?_ (by omega) _) | fail)
  clear h1
  refine ((KA w1 ((HL.out.below G1.1).mono G1.size)).out).mono ?_
  rintro e w2 ⟨rfl, G2⟩
  have B2_0 := b2.grew G2
  have G3 := G1.trans G2
  dsimp only [vrR]
  have d0 := B2_0.cell 0 rfl
  have d1 := B2_0.cell 1 rfl
  have d2 := B2_0.cell 2 rfl
  have d3 := B2_0.cell 3 rfl
  have f0 := B2_0.free 0
  have f1 := B2_0.free 1
  have f2 := B2_0.free 2
  have f3 := B2_0.free 3
  have hlt := B2_0.lt
  clear b2 G1 G2 KA
  go_wp2
  refine name_bp fun wq hq => ?_
  have Gq : Grew w wq := by
    rw [hq]
    repeat' (first | (with_reducible exact G3) | (with_reducible refine Grew.setCell ?_ ?_ _) | (with_reducible refine Grew.alloc ?_ _) | (dsimp only; omega))
  have Bq : Blk wq (w.heap.size + 1 + 1) 24 [.int .i64 k1, .int .i64 n1, .string ⟨#[]⟩, .slice p1 m1 c1] := by
    rw [hq]
    repeat (with_reducible refine Blk.alloc ?_ _)
    exact ((((B2_0.set' 0 _ rfl).set' 1 _ rfl).set' 2 _ rfl).set' 3 _ rfl)
  have q0 := Bq.cell 0 rfl
  have q1 := Bq.cell 1 rfl
  have q2 := Bq.cell 2 rfl
  have q3 := Bq.cell 3 rfl
  exact bodyPost_ret (v := .tuple #[.agg #[.int .i64 k1, .int .i64 n1, .string ⟨#[]⟩, .slice p1 m1 c1], .int .i64 0]) (by simp [results, Tryd.results45, go_sem, q0, q1, q2, q3]) rfl ⟨p1, m1, c1, rfl, ⟨rfl, rfl, rfl⟩, Gq⟩

set_option maxRecDepth 20000 in
set_option maxHeartbeats 4000000 in
theorem Eval_gen {d : Nd} {t : Nat} {pe : Option Addr} {me ce : Nat} {g : Nat → Bd} {kr nr er : Int} {Gr : Nat → Option Addr → Nat → Nat → World → Prop} {Gf : Option Addr → Nat → Nat → World → Prop} (w : World) (hv : Vl w w.heap.size d 1 t) (ht : t ≤ 400) (he : EvG w w.heap.size pe me ce d kr nr er Gr)
    (hm : me ≤ 1000) (hL : BRow w w.heap.size pe me g) (hg : ∀ i, i < me → ∀ W, Grew w W → Calls Tryd.prog 11 #[(g i).d.v] W fun e w' => e = .returned (.int .i64 0) ∧ Grew W w')
    (hGr : ∀ L p m c w w', Gr L p m c w → Grew w w' → Gr L p m c w') (hGf : ∀ p m c w w', Gf p m c w → Grew w w' → Gf p m c w') (hSf : ∀ p m c W b o x, Gf p m c W → w.heap.size ≤ b → b ≤ w.heap.size + 1 → Gf p m c (W.setCell ⟨b, o, none⟩ x))
    (KC : ∀ L pr mr cr W, Gr L pr mr cr W → w.heap.size + 1 < W.heap.size → Hid (Calls Tryd.prog 46 #[.agg #[.int .i64 kr, .int .i64 nr, .string ⟨#[]⟩, .slice pr mr cr]] W fun e w' => ∃ p2 m2 c2, e = .returned (.agg #[.int .i64 kr, .int .i64 nr, .string ⟨#[]⟩, .slice p2 m2 c2]) ∧ Gf p2 m2 c2 w' ∧ Grew W w')) :
    Calls Tryd.prog 30 #[d.v, .slice pe me ce] w fun e w' => ∃ p2 m2 c2, e = .returned (.tuple #[.agg #[.int .i64 kr, .int .i64 nr, .string ⟨#[]⟩, .slice p2 m2 c2], .int .i64 er]) ∧ Gf p2 m2 c2 w' ∧ Grew w w' := by
  have KV := fun W hB hC => hide (Validate_ok (w := W) (hv.to hB (Nat.le_refl _) hC) ht)
  have KE := fun W hB => hide (he W hB)
  have HL := hide hL
  have HG := hide hg
  obtain ⟨k, n, s, m, p, c⟩ := d
  have hm' : ¬ (1000 : Int) < (me : Int) := by omega
  clear hv he hL hg ht
  go_enter Tryd.func30, Tryd.ntmps30
  go_wp2_with fail
  refine name_calls fun w1 h1 => ?_
  have G1 : Grew w w1 := by rw [h1]; exact ((Grew.refl _).alloc _).alloc _
  have b0 : Blk w1 w.heap.size 58 [.int .i64 k, .int .i64 n, .string s, .slice p m c] := by
    rw [h1]; repeat' (first | (with_reducible assumption) | ((with_reducible refine Blk.new ?_); (first | (with_reducible rfl) | (simp only [World.size_alloc, World.size_setCell, size_drewN]; done))) | (with_reducible refine Blk.alloc ?_ _) | (refine Blk.other ?_ (by omega) _) | fail)
  have b1 : Blk w1 (w.heap.size + 1) 24 [.int .i64 0, .int .i64 0, .string ⟨#[]⟩, .slice none 0 0] := by
    rw [h1]; repeat' (first | (with_reducible assumption) | ((with_reducible refine Blk.new ?_); (first | (with_reducible rfl) | (simp only [World.size_alloc, World.size_setCell, size_drewN]; done))) | (with_reducible refine Blk.alloc ?_ _) | (refine Blk.other ?_ (by omega) _) | fail)
  clear h1
  refine ((KV w1 G1.1 G1.size).out).mono ?_
  rintro e w2 ⟨rfl, G2⟩
  have V0 := hide (b0.grew G2)
  have V1 := hide (b1.grew G2)
  have G := hide (G1.trans G2)
  clear b0 b1 G1 G2 KV
  go_wp2
  go_loopg [24] (me + 1) (fun gh vk wr => ∃ (i : Nat), vk = .int .i64 (i : Int) ∧ i ≤ me ∧ me - i < gh ∧ Hid (Grew w wr) ∧ Hid (Blk wr w.heap.size 58 [.int .i64 k, .int .i64 n, .string s, .slice p m c]) ∧ Hid (Blk wr (w.heap.size + 1) 24 [.int .i64 0, .int .i64 0, .string ⟨#[]⟩, .slice none 0 0]))
  case atStart => exact ⟨0, by go_num, by omega, by omega, G, V0, V1⟩
  case round =>
    clear V0 V1 G
    obtain ⟨wo, rfl⟩ : ∃ wo : World, wo = wr := ⟨_, rfl⟩
    obtain ⟨i, rfl, hi, hgh, G, V0, V1⟩ := hrel
    by_cases hlt : i < me
    · have hltz : (i : Int) < (me : Int) := by omega
      obtain ⟨bb, off, rfl, hbl, hcs⟩ := (HL.out.below G.out.1) (by omega)
      obtain ⟨x0, x1, x2, x3, x4⟩ := hcs i hlt
      have KK := fun W h => hide (HG.out i hlt W h)
      clear KE KC
      generalize g i = xx at x0 x1 x2 x3 x4 KK
      obtain ⟨xnm, ⟨xk, xn, xs, xm, xp, xc⟩⟩ := xx
      dsimp only at x0 x1 x2 x3 x4 KK
      clear hcs
      go_wp2_with fail
      refine name_calls fun w4 h4 => ?_
      have G4 : Grew wo w4 := by rw [h4]; exact (Grew.refl _).alloc _
      clear h4
      refine ((KK w4 (G.out.trans G4)).out).mono ?_
      rintro e w5 ⟨rfl, G5⟩
      have G6 := G4.trans G5
      have Y0 := hide (V0.out.grew G6)
      have Y1 := hide (V1.out.grew G6)
      have GG := hide (G.out.trans G6)
      clear V0 V1 G G4 G5 G6 x0 x1 x2 x3 x4 KK
      go_wp2
      go_roundg (me - i)
      case measure => omega
      case rel => exact ⟨i + 1, by go_num, by omega, by omega, GG, Y0, Y1⟩
    · have hltz : ¬ (i : Int) < (me : Int) := by omega
      have Y0 := V0.out
      have Y1 := V1.out
      clear V0 V1
      have c0 := Y0.cell 0 rfl
      have fr0 := Y0.free 0
      have c1 := Y0.cell 1 rfl
      have fr1 := Y0.free 1
      have c2 := Y0.cell 2 rfl
      have fr2 := Y0.free 2
      have c3 := Y0.cell 3 rfl
      have fr3 := Y0.free 3
      have clt := Y0.lt
      go_wp2_with fail
      refine ((KE wo G.out.1).out).mono ?_
      rintro e w5 ⟨pr, mr, cr, rfl, DR, G5⟩
      have X1 := hide (Y1.grew G5)
      have GG := G.out.trans G5
      clear Y0 Y1 G G5 KE c0 c1 c2 c3 fr0 fr1 fr2 fr3 clt
      go_wp2_with fail
      refine name_calls fun w6 h6 => ?_
      have G6 : Grew w5 w6 := by rw [h6]; exact (Grew.refl _).alloc _
      clear h6
      refine ((KC _ _ _ _ w6 (hGr _ _ _ _ _ _ DR G6) (Nat.lt_of_lt_of_le X1.out.lt G6.size)).out).mono ?_
      rintro e w7 ⟨p2, m2, c2, rfl, DF, G7⟩
      have DF' := hide DF
      clear DF DR
      have G8 := G6.trans G7
      have Y := X1.out.grew G8
      have GF := GG.trans G8
      clear X1 GG G6 G7 G8 KC
      have d0 := Y.cell 0 rfl
      have fr0 := Y.free 0
      have d1 := Y.cell 1 rfl
      have fr1 := Y.free 1
      have d2 := Y.cell 2 rfl
      have fr2 := Y.free 2
      have d3 := Y.cell 3 rfl
      have fr3 := Y.free 3
      have dlt := Y.lt
      go_wp2
      refine name_bp fun wq hq => ?_
      have Gq : Grew w wq := by
        rw [hq]
        repeat' (first | (with_reducible exact GF) | (with_reducible refine Grew.setCell ?_ ?_ _) | (with_reducible refine Grew.alloc ?_ _) | (dsimp only; omega))
      have Bq : Blk wq (w.heap.size + 1) 24 [.int .i64 kr, .int .i64 nr, .string ⟨#[]⟩, .slice p2 m2 c2] := by
        rw [hq]
        repeat (with_reducible refine Blk.alloc ?_ _)
        exact ((((Y.set' 0 _ rfl).set' 1 _ rfl).set' 2 _ rfl).set' 3 _ rfl)
      have Dq : Gf p2 m2 c2 wq := by
        rw [hq]
        repeat' (first | (with_reducible exact DF'.out) | (with_reducible refine hSf _ _ _ _ _ _ _ ?_ ?_ ?_) | (with_reducible refine hGf _ _ _ _ _ ?_ ((Grew.refl _).alloc _)) | omega | (dsimp only; omega))
      have q0 := Bq.cell 0 rfl
      have q1 := Bq.cell 1 rfl
      have q2 := Bq.cell 2 rfl
      have q3 := Bq.cell 3 rfl
      exact bodyPost_ret (v := .tuple #[.agg #[.int .i64 kr, .int .i64 nr, .string ⟨#[]⟩, .slice p2 m2 c2], .int .i64 er]) (by simp [results, Tryd.results30, go_sem, q0, q1, q2, q3]) rfl ⟨p2, m2, c2, rfl, Dq, Gq⟩
end Go.Proofs.YtnhhmndnmkkhlaaDoor
