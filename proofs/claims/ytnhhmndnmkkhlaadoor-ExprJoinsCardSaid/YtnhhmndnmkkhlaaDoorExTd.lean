/- nested, Join. -/
import Derived.Test.YtnhhmndnmkkhlaaDoorExTc
namespace Go.Proofs.YtnhhmndnmkkhlaaDoor
open Go.RowKit Go.Sort
set_option linter.unusedVariables false
set_option linter.unusedSimpArgs false

set_option maxRecDepth 20000 in
set_option maxHeartbeats 4000000 in
theorem nested_any (l : Nat) (b : Int) (w : World) (hl : l ≤ 1000) (hb : -9223372036854775808 ≤ b ∧ b ≤ 9223372036854775807) : Calls Tryd.prog 34 #[flV (l : Int) b] w fun e w' => ∃ v, e = .returned v ∧ TyIn w' (fun x => w.heap.size + 1 + 1 + 1 ≤ x) (NT b l) v ∧ Grew w w' := by
  go_enter Tryd.func34, Tryd.ntmps34
  go_wp2
  refine name_world fun w1 h1 => ?_
  have b0 : Hid (Blk w1 w.heap.size 65 [.int .i64 (l : Int), .int .i64 b]) := by
    refine hide ?_; rw [h1]; repeat' (first | (with_reducible assumption) | ((with_reducible refine Blk.new ?_); (first | (with_reducible rfl) | (simp only [World.size_alloc, World.size_setCell, size_drewN]; done))) | (with_reducible refine Blk.alloc ?_ _) | (with_reducible refine Blk.drewN ?_ _) | (with_reducible refine Blk.drew ?_) | (refine Blk.other ?_ (by omega) _) | fail)
  have b1 : Hid (Blk w1 (w.heap.size + 1) 28 [.int .i64 0, .slice none 0 0]) := by
    refine hide ?_; rw [h1]; repeat' (first | (with_reducible assumption) | ((with_reducible refine Blk.new ?_); (first | (with_reducible rfl) | (simp only [World.size_alloc, World.size_setCell, size_drewN]; done))) | (with_reducible refine Blk.alloc ?_ _) | (with_reducible refine Blk.drewN ?_ _) | (with_reducible refine Blk.drew ?_) | (refine Blk.other ?_ (by omega) _) | fail)
  have b2 : Hid (Blk w1 (w.heap.size + 1 + 1) 28 [.int .i64 b, .slice none 0 0]) := by
    refine hide ?_; rw [h1]; repeat' (first | (with_reducible assumption) | ((with_reducible refine Blk.new ?_); (first | (with_reducible rfl) | (simp only [World.size_alloc, World.size_setCell, size_drewN]; done))) | (with_reducible refine Blk.alloc ?_ _) | (with_reducible refine Blk.drewN ?_ _) | (with_reducible refine Blk.drew ?_) | (refine Blk.other ?_ (by omega) _) | fail)
  have G1 : Hid (Grew w w1) := by rw [h1]; exact (((Grew.refl _).alloc _).alloc _).alloc _
  have z1 : w.heap.size + 1 + 1 + 1 ≤ w1.heap.size := by rw [h1]; simp
  clear h1
  have c3 := b0.out.cell 0 rfl
  go_wp2
  clear c3
  go_loopg [11] (l + 1) (fun gh vk wr => ∃ (i : Nat) (k : Int) (p : Option Addr) (m c : Nat), vk = .int .i64 (i : Int) ∧ i ≤ l ∧ l - i < gh ∧ w.heap.size + 1 + 1 + 1 ≤ wr.heap.size ∧ Hid (TyIn wr (fun x => w.heap.size + 1 + 1 + 1 ≤ x) (NT b i) (tyV k p m c)) ∧ Hid (Grew w wr) ∧ Hid (Blk wr w.heap.size 65 [.int .i64 (l : Int), .int .i64 b]) ∧ Hid (Blk wr (w.heap.size + 1) 28 [.int .i64 0, .slice none 0 0]) ∧ Hid (Blk wr (w.heap.size + 1 + 1) 28 [.int .i64 k, .slice p m c]))
  case atStart => exact ⟨0, b, none, 0, 0, by go_num, by omega, by omega, z1, hide (TyIn.leaf hb), G1, b0, b1, b2⟩
  case round =>
    clear b0 b1 b2 G1 z1
    obtain ⟨wo, rfl⟩ : ∃ wo : World, wo = wr := ⟨_, rfl⟩
    obtain ⟨i, k, p, m, c, rfl, hi, hgh, hsz, T, G, V0, V1, V2⟩ := hrel
    have B0 := V0.out
    have B1 := V1.out
    have B2 := V2.out
    have GO := G.out
    clear V0 V1 V2 G
    have a0 := B0.cell 0 rfl
    have af0 := B0.free 0
    have a1 := B0.cell 1 rfl
    have af1 := B0.free 1
    have alt := B0.lt
    have d0 := B1.cell 0 rfl
    have df0 := B1.free 0
    have d1 := B1.cell 1 rfl
    have df1 := B1.free 1
    have dlt := B1.lt
    have x0 := B2.cell 0 rfl
    have xf0 := B2.free 0
    have x1 := B2.cell 1 rfl
    have xf1 := B2.free 1
    have xlt := B2.lt
    by_cases hlt : i < l
    · have hltz : (i : Int) < (l : Int) := by omega
      by_cases h0 : 0 < i ∨ b ≠ 0
      · have key : (0 : Int) < (i : Int) ∨ ¬ (0 : Int) < (i : Int) := by omega
        have hgo : Hid (∀ wq, Kept (fun x => w.heap.size + 1 + 1 + 1 ≤ x) wo wq → Blk wq (wo.heap.size + 1) 28 [.int .i64 k, .slice p m c] → TyIn wq (fun x => w.heap.size + 1 + 1 + 1 ≤ x) (NT b (i + 1)) (tyV 4 (some ⟨wo.heap.size + 1, 0, none⟩) 1 1)) := by
          refine hide fun wq hk hbq => ?_
          unfold NT
          rw [if_pos h0]
          exact ⟨by omega, _, _, rfl, by omega, fun _ => ⟨_, _, rfl, hbq.lt, by omega, fun j hj => by
            obtain rfl : j = 0 := by omega
            exact ⟨_, _, hbq.cell 0 rfl, hbq.cell 1 rfl, TyIn.kept hk T.out⟩⟩⟩
        clear T
        rcases key with h1 | h1
        · go_wp2
          go_roundg (l - i)
          case measure => omega
          case rel =>
            refine ⟨i + 1, 4, some ⟨wo.heap.size + 1, 0, none⟩, 1, 1, by go_num, by omega, by omega, by simp; omega, ?_, ?_, ?_, ?_, ?_⟩
            · exact hide (hgo.out _ (((((Kept.refl _ _).set (.inl (by omega)) _ _).set (.inl (by omega)) _ _).alloc _).alloc _) (Blk.new (by simp)))
            · refine hide ?_
              repeat' (first | (with_reducible exact GO) | (with_reducible refine Grew.setCell ?_ ?_ _) | (with_reducible refine Grew.alloc ?_ _) | (dsimp only; omega))
            · exact hide (Blk.alloc (Blk.alloc (((B0.other (by omega) _).other (by omega) _)) _) _)
            · exact hide (Blk.alloc (Blk.alloc (((B1.other (by omega) _).other (by omega) _)) _) _)
            · exact hide (Blk.alloc (Blk.alloc (((B2.set' 0 _ rfl).set' 1 _ rfl)) _) _)
        · have h2 : b ≠ 0 := by omega
          have h3 : (b == 0) = false := by simpa using h2
          have h3' : (b != 0) = true := by simpa using h2
          have hi0 : i = 0 := by omega
          subst hi0
          go_wp2
          go_roundg (l - 0)
          case measure => omega
          case rel =>
            refine ⟨0 + 1, 4, some ⟨wo.heap.size + 1, 0, none⟩, 1, 1, by go_num, by omega, by omega, by simp; omega, ?_, ?_, ?_, ?_, ?_⟩
            · exact hide (hgo.out _ (((((Kept.refl _ _).set (.inl (by omega)) _ _).set (.inl (by omega)) _ _).alloc _).alloc _) (Blk.new (by simp)))
            · refine hide ?_
              repeat' (first | (with_reducible exact GO) | (with_reducible refine Grew.setCell ?_ ?_ _) | (with_reducible refine Grew.alloc ?_ _) | (dsimp only; omega))
            · exact hide (Blk.alloc (Blk.alloc (((B0.other (by omega) _).other (by omega) _)) _) _)
            · exact hide (Blk.alloc (Blk.alloc (((B1.other (by omega) _).other (by omega) _)) _) _)
            · exact hide (Blk.alloc (Blk.alloc (((B2.set' 0 _ rfl).set' 1 _ rfl)) _) _)
      · have h2 : b = 0 := by omega
        have hi0 : i = 0 := by omega
        subst h2
        subst hi0
        clear T
        go_wp2
        go_roundg (l - 0)
        case measure => omega
        case rel =>
          refine ⟨0 + 1, 4, none, 0, 0, by go_num, by omega, by omega, by simp; omega, ?_, ?_, ?_, ?_, ?_⟩
          · refine hide ?_
            unfold NT
            rw [if_neg (by omega)]
            exact TyIn.leaf (by omega)
          · refine hide ?_
            repeat' (first | (with_reducible exact GO) | (with_reducible refine Grew.setCell ?_ ?_ _) | (with_reducible refine Grew.alloc ?_ _) | (dsimp only; omega))
          · exact hide (Blk.alloc (((B0.other (by omega) _).other (by omega) _)) _)
          · exact hide (Blk.alloc (((B1.other (by omega) _).other (by omega) _)) _)
          · exact hide (Blk.alloc (((B2.set' 0 _ rfl).set' 1 _ rfl)) _)
    · have hltz : ¬ (i : Int) < (l : Int) := by omega
      obtain rfl : i = l := by omega
      go_wp2
      refine name_bp fun wq hq => ?_
      have Gq : Grew w wq := by
        rw [hq]
        repeat' (first | (with_reducible exact GO) | (with_reducible refine Grew.setCell ?_ ?_ _) | (with_reducible refine Grew.alloc ?_ _) | (dsimp only; omega))
      have Bq : Blk wq (w.heap.size + 1) 28 [.int .i64 k, .slice p m c] := by
        rw [hq]
        repeat (with_reducible refine Blk.alloc ?_ _)
        exact (Blk.set' (Blk.set' B1 0 _ rfl) 1 _ rfl)
      have Kq : Kept (fun x => w.heap.size + 1 + 1 + 1 ≤ x) wo wq := by
        rw [hq]
        exact ((Kept.refl _ _).set (.inl (by omega)) _ _).set (.inl (by omega)) _ _
      have q0 := Bq.cell 0 rfl
      have q1 := Bq.cell 1 rfl
      exact bodyPost_ret (v := tyV k p m c) (by simp [results, Tryd.results34, go_sem, q0, q1]) rfl ⟨_, rfl, TyIn.kept Kq T.out, Gq⟩
end Go.Proofs.YtnhhmndnmkkhlaaDoor
