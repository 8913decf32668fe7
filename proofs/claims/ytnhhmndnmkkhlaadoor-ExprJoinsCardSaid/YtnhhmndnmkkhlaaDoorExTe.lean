/- The reference's validType, ValidType, SameType and the law's long, at every type. -/
import Derived.Test.YtnhhmndnmkkhlaaDoorExTc
namespace Go.Proofs.YtnhhmndnmkkhlaaDoor
open Go.RowKit Go.Sort
set_option linter.unusedVariables false
set_option linter.unusedSimpArgs false

set_option maxRecDepth 20000 in
set_option maxHeartbeats 4000000 in
theorem validType_any (t : Ty) : ∀ (v : Value) (d : Nat) (w : World) (Q : Nat → Prop), TyIn w Q t v → d ≤ 20 → Calls Tryd.prog 53 #[v, .int .i64 (d : Int)] w fun e w' => e = .returned (.bool (vaT t d)) ∧ Grew w w' := by
  induction t with
  | nil => intro v d w Q h _; exact h.elim
  | mk k m f ih =>
    intro v d w Q h hd
    obtain ⟨k', m', f', p, c, e, rfl⟩ := h.root
    simp only [Ty.mk.injEq] at e
    obtain ⟨rfl, rfl, rfl⟩ := e
    have wd : IntKind.i64.wrap ((d : Int) + 1) = (d : Int) + 1 := wr (by omega) (by omega)
    by_cases hk : k = 1 ∨ k = 2 ∨ k = 3
    · rw [show vaT (.mk k m f) d = decide (m = 0) by unfold vaT; rw [if_pos hk]]
      have e4 : (k == 1) = true ∨ ((k == 1) = false ∧ (k == 2) = true) ∨ ((k == 1) = false ∧ (k == 2) = false ∧ (k == 3) = true) := by simp; omega
      clear hk ih h
      by_cases h0 : m = 0
      · subst h0
        rcases e4 with e1 | ⟨e1, e2⟩ | ⟨e1, e2, e3⟩
        all_goals
          go_enter Tryd.func53, Tryd.ntmps53
          go_wp2
          go_ret
          refine ⟨by simp, ?_⟩
          repeat' (first | (with_reducible exact Grew.refl _) | (with_reducible refine Grew.setCell ?_ ?_ _) | (with_reducible refine Grew.drewN ?_ _) | (with_reducible refine Grew.reD ?_ _) | (with_reducible refine Grew.alloc ?_ _) | (dsimp only; omega))
      · have h0f : ((m : Int) == 0) = false := by simp; omega
        rw [show decide (m = 0) = false by simpa using h0]
        rcases e4 with e1 | ⟨e1, e2⟩ | ⟨e1, e2, e3⟩
        all_goals
          go_enter Tryd.func53, Tryd.ntmps53
          go_wp2
          go_ret
          refine ⟨by simp, ?_⟩
          repeat' (first | (with_reducible exact Grew.refl _) | (with_reducible refine Grew.setCell ?_ ?_ _) | (with_reducible refine Grew.drewN ?_ _) | (with_reducible refine Grew.reD ?_ _) | (with_reducible refine Grew.alloc ?_ _) | (dsimp only; omega))
    · have e1 : (k == 1) = false := by simp; omega
      have e2 : (k == 2) = false := by simp; omega
      have e3 : (k == 3) = false := by simp; omega
      by_cases h4 : k = 4
      · subst h4
        by_cases h5 : 16 < d
        · rw [show vaT (.mk 4 m f) d = false by unfold vaT; rw [if_neg hk, if_pos (.inr (.inl h5))]]
          have h5z : (16 : Int) < (d : Int) := by omega
          clear ih h
          go_enter Tryd.func53, Tryd.ntmps53
          go_wp2
          go_ret
          refine ⟨rfl, ?_⟩
          repeat' (first | (with_reducible exact Grew.refl _) | (with_reducible refine Grew.setCell ?_ ?_ _) | (with_reducible refine Grew.drewN ?_ _) | (with_reducible refine Grew.reD ?_ _) | (with_reducible refine Grew.alloc ?_ _) | (dsimp only; omega))
        · have h5z : ¬ (16 : Int) < (d : Int) := by omega
          by_cases h6 : 1 < m
          · rw [show vaT (.mk 4 m f) d = false by unfold vaT; rw [if_neg hk, if_pos (.inr (.inr h6))]]
            have h6z : (1 : Int) < (m : Int) := by omega
            clear ih h
            go_enter Tryd.func53, Tryd.ntmps53
            go_wp2
            go_ret
            refine ⟨rfl, ?_⟩
            repeat' (first | (with_reducible exact Grew.refl _) | (with_reducible refine Grew.setCell ?_ ?_ _) | (with_reducible refine Grew.drewN ?_ _) | (with_reducible refine Grew.reD ?_ _) | (with_reducible refine Grew.alloc ?_ _) | (dsimp only; omega))
          · have h6z : ¬ (1 : Int) < (m : Int) := by omega
            by_cases h0 : m = 0
            · subst h0
              rw [show vaT (.mk 4 0 f) d = true by unfold vaT; rw [if_neg hk, if_neg (by omega), if_pos rfl]]
              clear ih h
              go_enter Tryd.func53, Tryd.ntmps53
              go_wp2
              go_ret
              refine ⟨rfl, ?_⟩
              repeat' (first | (with_reducible exact Grew.refl _) | (with_reducible refine Grew.setCell ?_ ?_ _) | (with_reducible refine Grew.drewN ?_ _) | (with_reducible refine Grew.reD ?_ _) | (with_reducible refine Grew.alloc ?_ _) | (dsimp only; omega))
            · obtain rfl : m = 1 := by omega
              rw [show vaT (.mk 4 1 f) d = vaT (f 0) (d + 1) by rw [vaT, if_neg hk, if_neg (by omega), if_neg h0]]
              obtain ⟨b, off, k2, m2, f2, p2, c2, rfl, hb, hq, -, y0, y1, h3⟩ := h.kid (i := 0) (by omega)
              simp only [Nat.zero_mul, Nat.add_zero] at y0 y1
              have KA := fun W (g : Grew w W) => hide (ih 0 _ (d + 1) W Q (h3.grew g) (by omega))
              rw [show ((d + 1 : Nat) : Int) = (d : Int) + 1 by omega] at KA
              generalize vaT (f 0) (d + 1) = r at *
              clear ih h h3 hk
              go_enter Tryd.func53, Tryd.ntmps53
              go_wp2_with fail
              refine name_calls fun w1 h1 => ?_
              have G1 : Grew w w1 := by
                rw [h1]
                repeat' (first | (with_reducible exact Grew.refl _) | (with_reducible refine Grew.setCell ?_ ?_ _) | (with_reducible refine Grew.drewN ?_ _) | (with_reducible refine Grew.reD ?_ _) | (with_reducible refine Grew.alloc ?_ _) | (dsimp only; omega))
              clear h1
              refine ((KA w1 G1).out).mono ?_
              rintro e w2 ⟨rfl, G2⟩
              have GG := G1.trans G2
              clear KA y0 y1
              go_wp2
              go_ret
              exact ⟨rfl, GG⟩
      · have e4 : (k == 4) = false := by simpa using h4
        rw [show vaT (.mk k m f) d = false by unfold vaT; rw [if_neg hk, if_pos (.inl h4)]]
        clear ih h
        go_enter Tryd.func53, Tryd.ntmps53
        go_wp2
        go_ret
        refine ⟨rfl, ?_⟩
        repeat' (first | (with_reducible exact Grew.refl _) | (with_reducible refine Grew.setCell ?_ ?_ _) | (with_reducible refine Grew.drewN ?_ _) | (with_reducible refine Grew.reD ?_ _) | (with_reducible refine Grew.alloc ?_ _) | (dsimp only; omega))
set_option maxHeartbeats 4000000 in
theorem ValidType_any (t : Ty) (v : Value) (w : World) (Q : Nat → Prop) (h : TyIn w Q t v) : Calls Tryd.prog 42 #[v] w fun e w' => e = .returned (.bool (vaT t 1)) ∧ Grew w w' := by
  obtain ⟨k, m, f, p, c, -, rfl⟩ := h.root
  have KA := fun W (g : Grew w W) => hide (validType_any t _ 1 W Q (h.grew g) (by omega))
  rw [show ((1 : Nat) : Int) = 1 by rfl] at KA
  generalize vaT t 1 = r at *
  clear h
  go_enter Tryd.func42, Tryd.ntmps42
  go_wp2_with fail
  refine name_calls fun w1 h1 => ?_
  have G1 : Grew w w1 := by
    rw [h1]
    repeat' (first | (with_reducible exact Grew.refl _) | (with_reducible refine Grew.setCell ?_ ?_ _) | (with_reducible refine Grew.drewN ?_ _) | (with_reducible refine Grew.reD ?_ _) | (with_reducible refine Grew.alloc ?_ _) | (dsimp only; omega))
  clear h1
  refine ((KA w1 G1).out).mono ?_
  rintro e w2 ⟨rfl, G2⟩
  have GG := G1.trans G2
  clear KA
  go_wp2
  go_ret
  exact ⟨rfl, GG⟩

set_option maxRecDepth 20000 in
set_option maxHeartbeats 4000000 in
theorem long_any (t : Ty) : ∀ (v : Value) (n : Nat) (w : World) (Q : Nat → Prop), TyIn w Q t v → n ≤ 1000 → Calls Tryd.prog 28 #[v, .int .i64 (n : Int)] w fun e w' => (e = .returned (.bool true) ∨ e = .returned (.bool false)) ∧ Grew w w' := by
  induction t with
  | nil => intro v n w Q h _; exact h.elim
  | mk k m f ih =>
    intro v n w Q h hn
    obtain ⟨k', m', f', p, c, e, rfl⟩ := h.root
    simp only [Ty.mk.injEq] at e
    obtain ⟨rfl, rfl, rfl⟩ := e
    by_cases h0 : n = 0
    · subst h0
      clear ih h
      go_enter Tryd.func28, Tryd.ntmps28
      go_wp2
      go_ret
      refine ⟨.inl rfl, ?_⟩
      repeat' (first | (with_reducible exact Grew.refl _) | (with_reducible refine Grew.setCell ?_ ?_ _) | (with_reducible refine Grew.drewN ?_ _) | (with_reducible refine Grew.reD ?_ _) | (with_reducible refine Grew.alloc ?_ _) | (dsimp only; omega))
    · have h0z : ¬ (n : Int) ≤ 0 := by omega
      by_cases h5 : 5 < m
      · have h5z : (5 : Int) < (m : Int) := by omega
        clear ih h
        go_enter Tryd.func28, Tryd.ntmps28
        go_wp2
        go_ret
        refine ⟨.inl rfl, ?_⟩
        repeat' (first | (with_reducible exact Grew.refl _) | (with_reducible refine Grew.setCell ?_ ?_ _) | (with_reducible refine Grew.drewN ?_ _) | (with_reducible refine Grew.reD ?_ _) | (with_reducible refine Grew.alloc ?_ _) | (dsimp only; omega))
      · have h5z : ¬ (5 : Int) < (m : Int) := by omega
        have H := hide h
        have IH := hide ih
        have hd : (n : Int).tdiv 2 = ((n / 2 : Nat) : Int) := by
          rw [Int.tdiv_eq_ediv_of_nonneg (by omega)]; omega
        have hw : IntKind.i64.wrap ((n / 2 : Nat) : Int) = ((n / 2 : Nat) : Int) := wr (by omega) (by omega)
        clear ih h
        go_enter Tryd.func28, Tryd.ntmps28
        go_wp2
        refine name_world fun w1 h1 => ?_
        have b0 : Hid (Blk w1 w.heap.size 28 [.int .i64 k, .slice p m c]) := by
          refine hide ?_; rw [h1]; repeat' (first | (with_reducible assumption) | ((with_reducible refine Blk.new ?_); (first | (with_reducible rfl) | (simp only [World.size_alloc, World.size_setCell, size_drewN]; done))) | (with_reducible refine Blk.alloc ?_ _) | (with_reducible refine Blk.drewN ?_ _) | (with_reducible refine Blk.drew ?_) | (refine Blk.other ?_ (by omega) _) | fail)
        have G1 : Hid (Grew w w1) := by rw [h1]; exact (Grew.refl _).alloc _
        clear h1
        go_loopg [5] (m + 1) (fun gh vk wr => ∃ (i : Nat), vk = .int .i64 (i : Int) ∧ i ≤ m ∧ m - i < gh ∧ Hid (Grew w wr) ∧ Hid (Blk wr w.heap.size 28 [.int .i64 k, .slice p m c]))
        case atStart => exact ⟨0, by go_num, by omega, by omega, G1, b0⟩
        case round =>
          clear b0 G1
          obtain ⟨wo, rfl⟩ : ∃ wo : World, wo = wr := ⟨_, rfl⟩
          obtain ⟨i, rfl, hi, hgh, G, V0⟩ := hrel
          have B0 := V0.out
          have a0 := B0.cell 0 rfl
          have af0 := B0.free 0
          have a1 := B0.cell 1 rfl
          have af1 := B0.free 1
          have alt := B0.lt
          by_cases hlt : i < m
          · have hltz : (i : Int) < (m : Int) := by omega
            obtain ⟨b, off, k2, m2, f2, p2, c2, rfl, hb, hq, -, y0, y1, h3⟩ := H.out.kid hlt
            replace y0 := (G.out.cell b _ hb).trans y0
            replace y1 := (G.out.cell b _ hb).trans y1
            have KA := fun W (g : Grew w W) => hide (IH.out i _ (n / 2) W Q (h3.grew g) (by omega))
            clear h3 IH H
            go_wp2_with fail
            refine name_calls fun w4 h4 => ?_
            have G4 : Grew w w4 := by rw [h4]; exact G.out
            have B4 := B0
            rw [← h4] at B4
            clear h4 y0 y1 B0 V0 G
            refine ((KA w4 G4).out).mono ?_
            rintro e w5 ⟨hr, G5⟩
            have GG := hide (G4.trans G5)
            have Y0 := hide (B4.grew G5)
            clear KA G4 G5 B4
            rcases hr with rfl | rfl
            · go_wp2
              go_ret
              exact ⟨.inl rfl, GG.out⟩
            · go_wp2
              go_roundg (m - i)
              case measure => omega
              case rel => exact ⟨i + 1, by go_num, by omega, by omega, GG, Y0⟩
          · have hltz : ¬ (i : Int) < (m : Int) := by omega
            go_wp2
            go_ret
            exact ⟨.inr rfl, G.out⟩
end Go.Proofs.YtnhhmndnmkkhlaaDoor
