/- validate and Validate at trees of well formed nodes: they return OK; the number of nodes at most 400, the depth at most 16. -/
import Derived.Test.YtnhhmndnmkkhlaaDoorExF
import Derived.Test.YtnhhmndnmkkhlaaDoorExD
namespace Go.Proofs.YtnhhmndnmkkhlaaDoor
open Go.RowKit Go.Sort
set_option linter.unusedVariables false
set_option linter.unusedSimpArgs false

def suN (t : Nat → Nat) : Nat → Nat
  | 0 => 0
  | k + 1 => suN t k + t k
theorem suN_mono (t : Nat → Nat) : ∀ {i j : Nat}, i ≤ j → suN t i ≤ suN t j
  | i, 0, h => by rw [show i = 0 by omega]; exact Nat.le_refl _
  | i, j + 1, h => by
    by_cases e : i = j + 1
    · subst e; exact Nat.le_refl _
    · have := suN_mono t (show i ≤ j by omega); show _ ≤ suN t j + t j; omega
/-- A tree of t nodes is valid at this depth. -/
def Vl (w0 : World) (B : Nat) (d : Nd) (dep : Int) (t : Nat) : Prop :=
  ∀ (w : World) (b c : Nat), Below B w0 w → B ≤ w0.heap.size → B ≤ b → Blk w b 95 [.int .i64 (c : Int)] → c + t ≤ 400 →
    Calls Tryd.prog 54 #[.pointer (some ⟨b, 0, none⟩), d.v, .int .i64 dep] w fun e w' => e = .returned (.int .i64 0) ∧ Upd b w w' ∧ Blk w' b 95 [.int .i64 ((c + t : Nat) : Int)]

set_option maxHeartbeats 4000000 in
theorem Vl.node {w0 : World} {B : Nat} {d : Nd} {f : Nat → Nd} {dep : Int} {ts : Nat → Nat} (hg : Gd d) (hr : Row w0 B d.p d.m f) (hd0 : 0 ≤ dep) (hd : dep ≤ 16)
    (hc : ∀ i, i < d.m → Vl w0 B (f i) (dep + 1) (ts i)) : Vl w0 B d dep (1 + suN ts d.m) := by
  intro w b c hB hB0 hbB hb hc4
  have KA := fun W => hide (formed_gd d W hg)
  have KB := fun W => hide (content_gd d W hg)
  have HC := hide hc
  have HR := hide hr
  have hm4 : d.m ≤ 3 := by
    have := hg.ar
    rcases this with ⟨_, h⟩ | ⟨_, h⟩ | ⟨_, h⟩ <;> omega
  obtain ⟨k, n, s, m, p, cc⟩ := d
  dsimp only at *
  clear hc hr hg
  have b0 := hb.cell 0 rfl
  have b1 := hb.free 0
  have hlt := hb.lt
  have wc : IntKind.i64.wrap ((c : Int) + 1) = (c : Int) + 1 := wr (by omega) (by omega)
  have wd : IntKind.i64.wrap (dep + 1) = dep + 1 := wr (by omega) (by omega)
  have h4 : ¬ (400 : Int) < (c : Int) + 1 := by omega
  have h16 : ¬ (16 : Int) < dep := by omega
  have HBw : Hid (Below B w0 w) := hB
  have HBs : B ≤ w.heap.size := Nat.le_trans hB0 hB.size
  clear hB
  go_enter Tryd.func54, Tryd.ntmps54
  go_wp2_with fail
  refine name_calls fun w1 h1 => ?_
  have U1 : Upd b w w1 := by rw [h1]; exact (Upd.set _ 0 _).trans (Upd.of_grew ((Grew.refl _).alloc _))
  have V0 : Blk w1 w.heap.size 58 [.int .i64 k, .int .i64 n, .string s, .slice p m cc] := by
    rw [h1]; repeat' (first | (with_reducible assumption) | ((with_reducible refine Blk.new ?_); (first | (with_reducible rfl) | (simp only [World.size_alloc, World.size_setCell, size_drewN]; done))) | (with_reducible refine Blk.alloc ?_ _) | (refine Blk.other ?_ (by omega) _) | fail)
  have V1 : Blk w1 b 95 [.int .i64 ((c + 1 : Nat) : Int)] := by
    rw [h1]; exact (Blk.set' hb 0 _ rfl).alloc _
  clear h1
  refine ((KA w1).out).mono ?_
  rintro e w2 ⟨rfl, G2⟩
  have V0' := V0.grew G2
  have V1' := V1.grew G2
  have U2 := U1.trans (Upd.of_grew G2)
  have c0 := V0'.cell 0 rfl
  have c1 := V0'.cell 1 rfl
  have c2 := V0'.cell 2 rfl
  have c3 := V0'.cell 3 rfl
  clear V0 V1 U1 G2
  go_wp2_with fail
  refine ((KB w2).out).mono ?_
  rintro e w3 ⟨rfl, G3⟩
  have V0 := V0'.grew G3
  have V1 := V1'.grew G3
  have U3 := hide (U2.trans (Upd.of_grew G3))
  have a0 := V0.cell 0 rfl
  have a1 := V0.cell 1 rfl
  have a2 := V0.cell 2 rfl
  have a3 := V0.cell 3 rfl
  replace V1 := hide V1
  clear V0' V1' U2 G3 c0 c1 c2 c3 KA KB
  go_wp2
  go_loopg [36] (m + 1) (fun gh vk wr => ∃ (i : Nat), vk = .int .i64 (i : Int) ∧ i ≤ m ∧ m - i < gh ∧ Hid (Upd b w wr) ∧ Hid (Blk wr b 95 [.int .i64 ((c + 1 + suN ts i : Nat) : Int)]))
  case atStart => exact ⟨0, by go_num, by omega, by omega, U3, V1⟩
  case round =>
    clear U3 V1 a0 a1 a2 a3 V0
    obtain ⟨wo, rfl⟩ : ∃ wo : World, wo = wr := ⟨_, rfl⟩
    obtain ⟨i, rfl, hi, hgh, U, V⟩ := hrel
    by_cases hlt2 : i < m
    · have hltz : (i : Int) < (m : Int) := by omega
      have BB : Below B w0 wo := HBw.out.trans (U.out.below hbB HBs)
      obtain ⟨br, off, rfl, hbr, hcs⟩ := (HR.out.below BB) (by omega)
      obtain ⟨x0, x1, x2, x3⟩ := hcs i hlt2
      have KC := HC.out i hlt2
      have hmo := suN_mono ts (show i + 1 ≤ m by omega)
      have hsu : suN ts (i + 1) = suN ts i + ts i := rfl
      generalize hx : f i = x at *
      obtain ⟨xk, xn, xs, xm, xp, xc⟩ := x
      dsimp only at x0 x1 x2 x3
      have KD := fun W hW hV => hide (KC W b (c + 1 + suN ts i) hW hB0 hbB hV (by omega))
      clear KC hcs hx
      have U' := U.out
      have V' := V.out
      go_wp2_with fail
      refine name_calls fun w4 h4' => ?_
      have U4 : Upd b w w4 := by rw [h4']; exact U'.trans (Upd.of_grew ((Grew.refl _).alloc _))
      have V4 : Blk w4 b 95 [.int .i64 ((c + 1 + suN ts i : Nat) : Int)] := by rw [h4']; exact V'.alloc _
      have B4 : Below B w0 w4 := HBw.out.trans (U4.below hbB HBs)
      clear h4'
      refine ((KD w4 B4 V4).out).mono ?_
      rintro e w5 ⟨rfl, U5, V5⟩
      have U6 := hide (U4.trans U5)
      have V6 : Hid (Blk w5 b 95 [.int .i64 ((c + 1 + suN ts (i + 1) : Nat) : Int)]) := by rw [hsu, ← Nat.add_assoc]; exact V5
      clear U4 V4 B4 U5 V5 KD U' V' U V BB x0 x1 x2 x3
      go_wp2
      go_roundg (m - i)
      case measure => omega
      case rel => exact ⟨i + 1, by go_num, by omega, by omega, U6, V6⟩
    · have hltz : ¬ (i : Int) < (m : Int) := by omega
      obtain rfl : i = m := by omega
      go_wp2
      go_ret
      exact ⟨rfl, U.out, by have := V.out; rwa [Nat.add_assoc] at this⟩

set_option maxHeartbeats 4000000 in
theorem Validate_ok {w : World} {d : Nd} {t : Nat} (h : Vl w w.heap.size d 1 t) (ht : t ≤ 400) :
    Calls Tryd.prog 44 #[d.v] w fun e w' => e = .returned (.int .i64 0) ∧ Grew w w' := by
  have KA := fun W b hW hb hV => hide (h W b 0 hW (Nat.le_refl _) hb hV (by omega))
  obtain ⟨k, n, s, m, p, c⟩ := d
  clear h
  go_enter Tryd.func44, Tryd.ntmps44
  go_wp2_with fail
  refine name_calls fun w1 h1 => ?_
  have G1 : Grew w w1 := by rw [h1]; exact ((Grew.refl _).alloc _).alloc _
  have V1 : Blk w1 (w.heap.size + 1) 95 [.int .i64 ((0 : Nat) : Int)] := by
    show Blk w1 (w.heap.size + 1) 95 [.int .i64 0]
    rw [h1]; repeat' (first | (with_reducible assumption) | ((with_reducible refine Blk.new ?_); (first | (with_reducible rfl) | (simp only [World.size_alloc, World.size_setCell, size_drewN]; done))) | (with_reducible refine Blk.alloc ?_ _) | (refine Blk.other ?_ (by omega) _) | fail)
  clear h1
  refine ((KA w1 _ G1.1 (by omega) V1).out).mono ?_
  rintro e w2 ⟨rfl, U2, V2⟩
  go_wp2
  go_ret
  exact ⟨rfl, U2.grew G1 (by omega)⟩
end Go.Proofs.YtnhhmndnmkkhlaaDoor
