/- Eval at valid trees, where the values of the bindings are ints and bools. -/
import Derived.Test.YtnhhmndnmkkhlaaDoorExN
namespace Go.Proofs.YtnhhmndnmkkhlaaDoor
open Go.RowKit Go.Sort
set_option linter.unusedVariables false
set_option linter.unusedSimpArgs false

theorem Vl.to {w0 w1 : World} {B C : Nat} {d : Nd} {dep : Int} {t : Nat} (h : Vl w0 B d dep t) (hB : Below B w0 w1) (hs : B ≤ w0.heap.size) (hC : B ≤ C) : Vl w1 C d dep t :=
  fun w b c hw hC1 hb hV ht => h w b c (hB.trans (hw.mono hC)) hs (Nat.le_trans hC hb) hV ht
/-- The values of the bindings are ints and bools. -/
def LfB (g : Nat → Bd) (m : Nat) : Prop := ∀ i, i < m → ∃ k n, Vf k n ∧ (g i).d = ⟨k, n, ⟨#[]⟩, 0, none, 0⟩

set_option maxRecDepth 20000 in
set_option maxHeartbeats 4000000 in
theorem Eval_ok {d : Nd} {t : Nat} {pe : Option Addr} {me ce : Nat} {g : Nat → Bd} {E K N : Int} (w : World) (hv : Vl w w.heap.size d 1 t) (ht : t ≤ 400) (he : Evs w w.heap.size pe me ce d (E, K, N))
    (hm : me ≤ 1000) (hL : BRow w w.heap.size pe me g) (hg : LfB g me) :
    Calls Tryd.prog 30 #[d.v, .slice pe me ce] w fun e w' => e = .returned (.tuple #[nv K N, .int .i64 E]) ∧ Grew w w' := by
  have KV := fun W hB hC => hide (Validate_ok (w := W) (hv.to hB (Nat.le_refl _) hC) ht)
  have KE := fun W hB => hide (he W hB)
  have KC := fun W => hide (clone_lf K N W)
  have HL := hide hL
  have HG := hide hg
  obtain ⟨k, n, s, m, p, c⟩ := d
  dsimp only at KV KE KC ⊢
  have hm' : ¬ (1000 : Int) < (me : Int) := by omega
  clear hv he hL hg ht
  go_enter Tryd.func30, Tryd.ntmps30
  go_wp2_with fail
  refine name_calls fun w1 h1 => ?_
  have G1 : Grew w w1 := by rw [h1]; exact ((Grew.refl _).alloc _).alloc _
  have b0 : Blk w1 w.heap.size 58 [.int .i64 k, .int .i64 n, .string s, .slice p m c] := by
    rw [h1]; repeat' (first | (with_reducible assumption) | ((with_reducible refine Blk.new ?_); (first | (with_reducible rfl) | (simp only [World.size_alloc, World.size_setCell, size_drewN]; done))) | (with_reducible refine Blk.alloc ?_ _) | (refine Blk.other ?_ (by omega) _) | fail)
  have b1 : Blk w1 (w.heap.size + 1) 24 [.int .i64 0, .int .i64 0, .string ⟨#[]⟩, .slice none 0 0] := by
    rw [h1]; repeat' (first | (with_reducible assumption) | ((with_reducible refine Blk.new ?_); (first | (with_reducible rfl) | (simp only [World.size_alloc, World.size_setCell, size_drewN]; done))) | (with_reducible refine Blk.alloc ?_ _) | (refine Blk.other ?_ (by omega) _) | fail)
  clear h1
  refine ((KV w1 G1.1 G1.size).out).mono ?_
  rintro e w2 ⟨rfl, G2⟩
  have V0 := hide (b0.grew G2)
  have V1 := hide (b1.grew G2)
  have G := hide (G1.trans G2)
  clear b0 b1 G1 G2 KV
  go_wp2
  go_loopg [24] (me + 1) (fun gh vk wr => ∃ (i : Nat), vk = .int .i64 (i : Int) ∧ i ≤ me ∧ me - i < gh ∧ Hid (Grew w wr) ∧ Hid (Blk wr w.heap.size 58 [.int .i64 k, .int .i64 n, .string s, .slice p m c]) ∧ Hid (Blk wr (w.heap.size + 1) 24 [.int .i64 0, .int .i64 0, .string ⟨#[]⟩, .slice none 0 0]))
  case atStart => exact ⟨0, by go_num, by omega, by omega, G, V0, V1⟩
  case round =>
    clear V0 V1 G
    obtain ⟨wo, rfl⟩ : ∃ wo : World, wo = wr := ⟨_, rfl⟩
    obtain ⟨i, rfl, hi, hgh, G, V0, V1⟩ := hrel
    by_cases hlt : i < me
    · have hltz : (i : Int) < (me : Int) := by omega
      obtain ⟨bb, off, rfl, hbl, hcs⟩ := (HL.out.below G.out.1) (by omega)
      obtain ⟨x0, x1, x2, x3, x4⟩ := hcs i hlt
      obtain ⟨lk, ln, hvf, hd⟩ := HG.out i hlt
      rw [hd] at x1 x2 x3 x4
      generalize (g i).nm = xnm at x0
      have KK := fun W => hide (Check_lf lk ln W hvf.lf)
      simp only [hvf.ck.1] at KK
      dsimp only at x1 x2 x3 x4
      clear hcs hvf hd KE KC
      go_wp2_with fail
      refine name_calls fun w4 h4 => ?_
      have G4 : Grew wo w4 := by rw [h4]; exact (Grew.refl _).alloc _
      clear h4
      refine ((KK w4).out).mono ?_
      rintro e w5 ⟨rfl, G5⟩
      have G6 := G4.trans G5
      have Y0 := hide (V0.out.grew G6)
      have Y1 := hide (V1.out.grew G6)
      have GG := hide (G.out.trans G6)
      clear V0 V1 G G4 G5 G6 x0 x1 x2 x3 x4 KK
      go_wp2
      go_roundg (me - i)
      case measure => omega
      case rel => exact ⟨i + 1, by go_num, by omega, by omega, GG, Y0, Y1⟩
    · have hltz : ¬ (i : Int) < (me : Int) := by omega
      have Y0 := V0.out
      have Y1 := V1.out
      clear V0 V1
      have c0 := Y0.cell 0 rfl
      have fr0 := Y0.free 0
      have c1 := Y0.cell 1 rfl
      have fr1 := Y0.free 1
      have c2 := Y0.cell 2 rfl
      have fr2 := Y0.free 2
      have c3 := Y0.cell 3 rfl
      have fr3 := Y0.free 3
      have clt := Y0.lt
      go_wp2_with fail
      refine ((KE wo G.out.1).out).mono ?_
      rintro e w5 ⟨rfl, G5⟩
      dsimp only
      have X1 := hide (Y1.grew G5)
      have GG := G.out.trans G5
      clear Y0 Y1 G G5 KE c0 c1 c2 c3 fr0 fr1 fr2 fr3 clt
      go_wp2_with fail
      refine name_calls fun w6 h6 => ?_
      have G6 : Grew w5 w6 := by rw [h6]; exact (Grew.refl _).alloc _
      clear h6
      refine ((KC w6).out).mono ?_
      rintro e w7 ⟨rfl, G7⟩
      have G8 := G6.trans G7
      have Y := X1.out.grew G8
      have GF := GG.trans G8
      clear X1 GG G6 G7 G8 KC
      have d0 := Y.cell 0 rfl
      have fr0 := Y.free 0
      have d1 := Y.cell 1 rfl
      have fr1 := Y.free 1
      have d2 := Y.cell 2 rfl
      have fr2 := Y.free 2
      have d3 := Y.cell 3 rfl
      have fr3 := Y.free 3
      have dlt := Y.lt
      go_wp2
      refine name_bp fun wq hq => ?_
      have Gq : Grew w wq := by
        rw [hq]
        repeat' (first | (with_reducible exact GF) | (with_reducible refine Grew.setCell ?_ ?_ _) | (with_reducible refine Grew.alloc ?_ _) | (dsimp only; omega))
      have Bq : Blk wq (w.heap.size + 1) 24 [.int .i64 K, .int .i64 N, .string ⟨#[]⟩, .slice none 0 0] := by
        rw [hq]
        repeat (with_reducible refine Blk.alloc ?_ _)
        exact (Blk.set' (Blk.set' (Blk.set' (Blk.set' Y 0 _ rfl) 1 _ rfl) 2 _ rfl) 3 _ rfl)
      have q0 := Bq.cell 0 rfl
      have q1 := Bq.cell 1 rfl
      have q2 := Bq.cell 2 rfl
      have q3 := Bq.cell 3 rfl
      refine bodyPost_ret (v := .tuple #[nv K N, .int .i64 E]) (by simp [results, Tryd.results30, go_sem, q0, q1, q2, q3]) rfl ⟨rfl, Gq⟩
end Go.Proofs.YtnhhmndnmkkhlaaDoor
