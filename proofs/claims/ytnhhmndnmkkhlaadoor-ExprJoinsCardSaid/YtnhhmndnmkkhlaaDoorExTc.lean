/- flatten, nested, join at all flat types, Join; no condition but on the sizes. -/
import Derived.Test.YtnhhmndnmkkhlaaDoorExTb
namespace Go.Proofs.YtnhhmndnmkkhlaaDoor
open Go.RowKit Go.Sort
set_option linter.unusedVariables false
set_option linter.unusedSimpArgs false

theorem flT4 {m : Nat} {f : Nat → Ty} {l : Nat} : flT (.mk 4 m f) l = if 16 < l + 1 ∨ 1 < m then (0, 0, false) else if m = 0 then (((l + 1 : Nat) : Int), 0, true) else flT (f 0) (l + 1) := by rw [flT, if_pos rfl]
theorem flTn {k : Int} {m : Nat} {f : Nat → Ty} {l : Nat} (h : k ≠ 4) : flT (.mk k m f) l = if 0 < m ∨ ¬ (k = 1 ∨ k = 2 ∨ k = 3) then (0, 0, false) else ((l : Int), k, true) := by rw [flT, if_neg h]
abbrev rsV (r : Int × Int × Bool) : Value := .tuple #[flV r.1 r.2.1, .bool r.2.2]
set_option maxRecDepth 20000 in
set_option maxHeartbeats 4000000 in
theorem flatten_any (t : Ty) (v : Value) (w : World) (Q : Nat → Prop) (h : TyIn w Q t v) : Calls Tryd.prog 40 #[v] w fun e w' => e = .returned (rsV (flT t 0)) ∧ Grew w w' := by
  obtain ⟨k, m, f, p, c, ht, rfl⟩ := h.root
  have H := hide h
  clear h ht f
  go_enter Tryd.func40, Tryd.ntmps40
  go_wp2
  refine name_world fun w1 h1 => ?_
  have b0 : Hid (Blk w1 w.heap.size 28 [.int .i64 k, .slice p m c]) := by
    refine hide ?_; rw [h1]; repeat' (first | (with_reducible assumption) | ((with_reducible refine Blk.new ?_); (first | (with_reducible rfl) | (simp only [World.size_alloc, World.size_setCell, size_drewN]; done))) | (with_reducible refine Blk.alloc ?_ _) | (with_reducible refine Blk.drewN ?_ _) | (with_reducible refine Blk.drew ?_) | (refine Blk.other ?_ (by omega) _) | fail)
  have b1 : Hid (Blk w1 (w.heap.size + 1) 65 [.int .i64 0, .int .i64 0]) := by
    refine hide ?_; rw [h1]; repeat' (first | (with_reducible assumption) | ((with_reducible refine Blk.new ?_); (first | (with_reducible rfl) | (simp only [World.size_alloc, World.size_setCell, size_drewN]; done))) | (with_reducible refine Blk.alloc ?_ _) | (with_reducible refine Blk.drewN ?_ _) | (with_reducible refine Blk.drew ?_) | (refine Blk.other ?_ (by omega) _) | fail)
  have b2 : Hid (Blk w1 (w.heap.size + 1 + 1) 65 [.int .i64 ((0 : Nat) : Int), .int .i64 0]) := by
    refine hide ?_
    show Blk w1 (w.heap.size + 1 + 1) 65 [.int .i64 0, .int .i64 0]
    rw [h1]; repeat' (first | (with_reducible assumption) | ((with_reducible refine Blk.new ?_); (first | (with_reducible rfl) | (simp only [World.size_alloc, World.size_setCell, size_drewN]; done))) | (with_reducible refine Blk.alloc ?_ _) | (with_reducible refine Blk.drewN ?_ _) | (with_reducible refine Blk.drew ?_) | (refine Blk.other ?_ (by omega) _) | fail)
  have G1 : Hid (Grew w w1) := by rw [h1]; exact (((Grew.refl _).alloc _).alloc _).alloc _
  clear h1
  go_loopg [] 18 (fun gh wr => ∃ (l : Nat) (t' : Ty) (k' : Int) (p' : Option Addr) (m' c' : Nat), l ≤ 16 ∧ 17 - l < gh ∧ Hid (flT t' l = flT t 0 ∧ TyIn w Q t' (tyV k' p' m' c')) ∧ Hid (Grew w wr) ∧ Hid (Blk wr w.heap.size 28 [.int .i64 k', .slice p' m' c']) ∧ Hid (Blk wr (w.heap.size + 1) 65 [.int .i64 0, .int .i64 0]) ∧ Hid (Blk wr (w.heap.size + 1 + 1) 65 [.int .i64 (l : Int), .int .i64 0]))
  case atStart => exact ⟨0, t, k, p, m, c, by omega, by omega, hide ⟨rfl, H.out⟩, G1, b0, b1, b2⟩
  case round =>
    clear b0 b1 b2 G1 H
    obtain ⟨wo, rfl⟩ : ∃ wo : World, wo = wr := ⟨_, rfl⟩
    obtain ⟨l, t', k', p', m', c', hl, hgh, T, G, V0, V1, V2⟩ := hrel
    obtain ⟨k1, m1, f1, p1, c1, rfl, e⟩ := T.out.2.root
    simp only [Value.agg.injEq, Array.mk.injEq, List.cons.injEq, Value.int.injEq, Value.slice.injEq, and_true, true_and] at e
    obtain ⟨rfl, rfl, rfl, rfl⟩ := e
    have TE := T.out.1
    have B0 := V0.out
    have B1 := V1.out
    have B2 := V2.out
    have GO := G.out
    clear V0 V1 V2 G
    have a0 := B0.cell 0 rfl
    have af0 := B0.free 0
    have a1 := B0.cell 1 rfl
    have af1 := B0.free 1
    have alt := B0.lt
    have d0 := B1.cell 0 rfl
    have df0 := B1.free 0
    have d1 := B1.cell 1 rfl
    have df1 := B1.free 1
    have dlt := B1.lt
    have x0 := B2.cell 0 rfl
    have xf0 := B2.free 0
    have x1 := B2.cell 1 rfl
    have xf1 := B2.free 1
    have xlt := B2.lt
    have wl : IntKind.i64.wrap ((l : Int) + 1) = (l : Int) + 1 := wr (by omega) (by omega)
    by_cases hk : k' = 4
    · subst hk
      rw [flT4] at TE
      by_cases h16 : 16 < l + 1
      · have h16z : (16 : Int) < (l : Int) + 1 := by omega
        rw [if_pos (.inl h16)] at TE
        go_wp2
        refine name_bp fun wq hq => ?_
        have Gq : Grew w wq := by
          rw [hq]
          repeat' (first | (with_reducible exact GO) | (with_reducible refine Grew.setCell ?_ ?_ _) | (with_reducible refine Grew.alloc ?_ _) | (dsimp only; omega))
        have Bq : Blk wq (w.heap.size + 1) 65 [.int .i64 0, .int .i64 0] := by
          rw [hq]
          repeat (with_reducible refine Blk.alloc ?_ _)
          exact (Blk.set' (Blk.set' (B1.other (by omega) _) 0 _ rfl) 1 _ rfl)
        have q0 := Bq.cell 0 rfl
        have q1 := Bq.cell 1 rfl
        exact bodyPost_ret (v := rsV (0, 0, false)) (by simp [results, Tryd.results40, go_sem, q0, q1]) rfl ⟨by rw [← TE], Gq⟩
      · have h16z : ¬ (16 : Int) < (l : Int) + 1 := by omega
        by_cases h1 : 1 < m'
        · have h1z : (1 : Int) < (m' : Int) := by omega
          rw [if_pos (.inr h1)] at TE
          go_wp2
          refine name_bp fun wq hq => ?_
          have Gq : Grew w wq := by
            rw [hq]
            repeat' (first | (with_reducible exact GO) | (with_reducible refine Grew.setCell ?_ ?_ _) | (with_reducible refine Grew.alloc ?_ _) | (dsimp only; omega))
          have Bq : Blk wq (w.heap.size + 1) 65 [.int .i64 0, .int .i64 0] := by
            rw [hq]
            repeat (with_reducible refine Blk.alloc ?_ _)
            exact (Blk.set' (Blk.set' (B1.other (by omega) _) 0 _ rfl) 1 _ rfl)
          have q0 := Bq.cell 0 rfl
          have q1 := Bq.cell 1 rfl
          exact bodyPost_ret (v := rsV (0, 0, false)) (by simp [results, Tryd.results40, go_sem, q0, q1]) rfl ⟨by rw [← TE], Gq⟩
        · have h1z : ¬ (1 : Int) < (m' : Int) := by omega
          rw [if_neg (by omega)] at TE
          by_cases h0 : m' = 0
          · subst h0
            rw [if_pos rfl] at TE
            go_wp2
            refine name_bp fun wq hq => ?_
            have Gq : Grew w wq := by
              rw [hq]
              repeat' (first | (with_reducible exact GO) | (with_reducible refine Grew.setCell ?_ ?_ _) | (with_reducible refine Grew.alloc ?_ _) | (dsimp only; omega))
            have Bq : Blk wq (w.heap.size + 1) 65 [.int .i64 ((l + 1 : Nat) : Int), .int .i64 0] := by
              rw [hq]
              repeat (with_reducible refine Blk.alloc ?_ _)
              exact (Blk.set' (Blk.set' (B1.other (by omega) _) 0 _ rfl) 1 _ rfl)
            have q0 := Bq.cell 0 rfl
            have q1 := Bq.cell 1 rfl
            exact bodyPost_ret (v := rsV (((l + 1 : Nat) : Int), 0, true)) (by simp [results, Tryd.results40, go_sem, q0, q1]) rfl ⟨by rw [← TE], Gq⟩
          · obtain rfl : m' = 1 := by omega
            rw [if_neg h0] at TE
            obtain ⟨b, off, k2, m2, f2, p2, c2, rfl, hb, hq, e2, y0, y1, h3⟩ := T.out.2.kid (i := 0) (by omega)
            simp only [Nat.zero_mul, Nat.add_zero] at y0 y1
            replace y0 := (GO.cell b _ hb).trans y0
            replace y1 := (GO.cell b _ hb).trans y1
            have hbo := Nat.lt_of_lt_of_le hb GO.size
            have T2 := hide (And.intro TE h3)
            clear T TE h3
            go_wp2
            go_roundg (17 - l)
            case measure => omega
            case rel =>
              refine ⟨l + 1, _, k2, p2, m2, c2, by omega, by omega, T2, ?_, ?_, ?_, ?_⟩
              · refine hide ?_
                repeat' (first | (with_reducible exact GO) | (with_reducible refine Grew.setCell ?_ ?_ _) | (dsimp only; omega))
              · exact hide ((((B0.other (by omega) _).set' 0 _ rfl).set' 1 _ rfl))
              · exact hide (((B1.other (by omega) _).other (by omega) _).other (by omega) _)
              · exact hide (((B2.set' 0 _ rfl).other (by omega) _).other (by omega) _)
    · have hkf : (k' == 4) = false := by simpa using hk
      rw [flTn hk] at TE
      by_cases h0 : 0 < m'
      · have h0z : (0 : Int) < (m' : Int) := by omega
        rw [if_pos (.inl h0)] at TE
        go_wp2
        refine name_bp fun wq hq => ?_
        have Gq : Grew w wq := by
          rw [hq]
          repeat' (first | (with_reducible exact GO) | (with_reducible refine Grew.setCell ?_ ?_ _) | (with_reducible refine Grew.alloc ?_ _) | (dsimp only; omega))
        have Bq : Blk wq (w.heap.size + 1) 65 [.int .i64 0, .int .i64 0] := by
          rw [hq]
          repeat (with_reducible refine Blk.alloc ?_ _)
          exact (Blk.set' (Blk.set' B1 0 _ rfl) 1 _ rfl)
        have q0 := Bq.cell 0 rfl
        have q1 := Bq.cell 1 rfl
        exact bodyPost_ret (v := rsV (0, 0, false)) (by simp [results, Tryd.results40, go_sem, q0, q1]) rfl ⟨by rw [← TE], Gq⟩
      · have h0z : ¬ (0 : Int) < (m' : Int) := by omega
        by_cases h1 : k' = 1
        · subst h1
          rw [if_neg (by omega)] at TE
          go_wp2
          refine name_bp fun wq hq => ?_
          have Gq : Grew w wq := by
            rw [hq]
            repeat' (first | (with_reducible exact GO) | (with_reducible refine Grew.setCell ?_ ?_ _) | (with_reducible refine Grew.alloc ?_ _) | (dsimp only; omega))
          have Bq : Blk wq (w.heap.size + 1) 65 [.int .i64 (l : Int), .int .i64 1] := by
            rw [hq]
            repeat (with_reducible refine Blk.alloc ?_ _)
            exact (Blk.set' (Blk.set' (B1.other (by omega) _) 0 _ rfl) 1 _ rfl)
          have q0 := Bq.cell 0 rfl
          have q1 := Bq.cell 1 rfl
          exact bodyPost_ret (v := rsV ((l : Int), 1, true)) (by simp [results, Tryd.results40, go_sem, q0, q1]) rfl ⟨by rw [← TE], Gq⟩
        · by_cases h2 : k' = 2
          · subst h2
            rw [if_neg (by omega)] at TE
            go_wp2
            refine name_bp fun wq hq => ?_
            have Gq : Grew w wq := by
              rw [hq]
              repeat' (first | (with_reducible exact GO) | (with_reducible refine Grew.setCell ?_ ?_ _) | (with_reducible refine Grew.alloc ?_ _) | (dsimp only; omega))
            have Bq : Blk wq (w.heap.size + 1) 65 [.int .i64 (l : Int), .int .i64 2] := by
              rw [hq]
              repeat (with_reducible refine Blk.alloc ?_ _)
              exact (Blk.set' (Blk.set' (B1.other (by omega) _) 0 _ rfl) 1 _ rfl)
            have q0 := Bq.cell 0 rfl
            have q1 := Bq.cell 1 rfl
            exact bodyPost_ret (v := rsV ((l : Int), 2, true)) (by simp [results, Tryd.results40, go_sem, q0, q1]) rfl ⟨by rw [← TE], Gq⟩
          · by_cases h3 : k' = 3
            · subst h3
              rw [if_neg (by omega)] at TE
              go_wp2
              refine name_bp fun wq hq => ?_
              have Gq : Grew w wq := by
                rw [hq]
                repeat' (first | (with_reducible exact GO) | (with_reducible refine Grew.setCell ?_ ?_ _) | (with_reducible refine Grew.alloc ?_ _) | (dsimp only; omega))
              have Bq : Blk wq (w.heap.size + 1) 65 [.int .i64 (l : Int), .int .i64 3] := by
                rw [hq]
                repeat (with_reducible refine Blk.alloc ?_ _)
                exact (Blk.set' (Blk.set' (B1.other (by omega) _) 0 _ rfl) 1 _ rfl)
              have q0 := Bq.cell 0 rfl
              have q1 := Bq.cell 1 rfl
              exact bodyPost_ret (v := rsV ((l : Int), 3, true)) (by simp [results, Tryd.results40, go_sem, q0, q1]) rfl ⟨by rw [← TE], Gq⟩
            · have e1 : (k' == 1) = false := by simpa using h1
              have e2 : (k' == 2) = false := by simpa using h2
              have e3 : (k' == 3) = false := by simpa using h3
              have i1 : (k' != 1) = true := by simpa using h1
              have i2 : (k' != 2) = true := by simpa using h2
              have i3 : (k' != 3) = true := by simpa using h3
              rw [if_pos (.inr (by omega))] at TE
              go_wp2
              refine name_bp fun wq hq => ?_
              have Gq : Grew w wq := by
                rw [hq]
                repeat' (first | (with_reducible exact GO) | (with_reducible refine Grew.setCell ?_ ?_ _) | (with_reducible refine Grew.alloc ?_ _) | (dsimp only; omega))
              have Bq : Blk wq (w.heap.size + 1) 65 [.int .i64 0, .int .i64 0] := by
                rw [hq]
                repeat (with_reducible refine Blk.alloc ?_ _)
                exact (Blk.set' (Blk.set' B1 0 _ rfl) 1 _ rfl)
              have q0 := Bq.cell 0 rfl
              have q1 := Bq.cell 1 rfl
              exact bodyPost_ret (v := rsV (0, 0, false)) (by simp [results, Tryd.results40, go_sem, q0, q1]) rfl ⟨by rw [← TE], Gq⟩

set_option maxHeartbeats 4000000 in
theorem join_any (l0 k0 l1 k1 : Int) (w : World) : Calls Tryd.prog 41 #[flV l0 k0, flV l1 k1] w fun e w' => e = .returned (rsV (jnR l0 k0 l1 k1)) ∧ Grew w w' := by
  by_cases h1 : l0 = l1 ∧ k0 = k1
  · obtain ⟨rfl, rfl⟩ := h1
    rw [jn_self]
    exact join_eq l0 k0 w
  · by_cases h2 : k0 = 0 ∧ l0 ≤ l1
    · obtain ⟨rfl, h2⟩ := h2
      rw [show jnR l0 0 l1 k1 = (l1, k1, true) by unfold jnR; rw [if_pos (.inr ⟨rfl, h2⟩)]]
      exact join_left l0 l1 k1 w h2
    · have e0 : ((l0 == l1) && (k0 == k1)) = false := by
        rw [Bool.eq_false_iff]; intro h; simp at h; exact h1 h
      by_cases h3 : k1 = 0 ∧ l1 ≤ l0
      · obtain ⟨rfl, h3⟩ := h3
        rw [show jnR l0 k0 l1 0 = (l0, k0, true) by unfold jnR; rw [if_neg (by omega), if_pos ⟨rfl, h3⟩]]
        by_cases hk : k0 = 0
        · subst hk
          have h4 : ¬ l0 ≤ l1 := by omega
          have e1 : (l0 == l1) = false := by simp; omega
          go_enter Tryd.func41, Tryd.ntmps41
          go_wp2
          refine bodyPost_ret (v := rsV (l0, 0, true)) (by simp [results, Tryd.results41, go_sem]) rfl ⟨rfl, ?_⟩
          repeat' (first | (with_reducible exact Grew.refl _) | (with_reducible refine Grew.setCell ?_ ?_ _) | (with_reducible refine Grew.drewN ?_ _) | (with_reducible refine Grew.reD ?_ _) | (with_reducible refine Grew.alloc ?_ _) | (dsimp only; omega))
        · have e1 : (k0 == 0) = false := by simpa using hk
          go_enter Tryd.func41, Tryd.ntmps41
          go_wp2
          refine bodyPost_ret (v := rsV (l0, k0, true)) (by simp [results, Tryd.results41, go_sem]) rfl ⟨rfl, ?_⟩
          repeat' (first | (with_reducible exact Grew.refl _) | (with_reducible refine Grew.setCell ?_ ?_ _) | (with_reducible refine Grew.drewN ?_ _) | (with_reducible refine Grew.reD ?_ _) | (with_reducible refine Grew.alloc ?_ _) | (dsimp only; omega))
      · rw [show jnR l0 k0 l1 k1 = (0, 0, false) by unfold jnR; rw [if_neg (by omega), if_neg h3]]
        have key : ∀ x y : Int, ¬ (x = 0 ∧ y = 0) ∨ True := fun _ _ => .inr trivial
        by_cases hk : k0 = 0
        · subst hk
          have h4 : ¬ l0 ≤ l1 := by omega
          have h5 : ¬ k1 = 0 := by omega
          have e1 : (l0 == l1) = false := by simp; omega
          have e2 : (k1 == 0) = false := by simpa using h5
          go_enter Tryd.func41, Tryd.ntmps41
          go_wp2
          refine bodyPost_ret (v := rsV (0, 0, false)) (by simp [results, Tryd.results41, go_sem]) rfl ⟨rfl, ?_⟩
          repeat' (first | (with_reducible exact Grew.refl _) | (with_reducible refine Grew.setCell ?_ ?_ _) | (with_reducible refine Grew.drewN ?_ _) | (with_reducible refine Grew.reD ?_ _) | (with_reducible refine Grew.alloc ?_ _) | (dsimp only; omega))
        · have e1 : (k0 == 0) = false := by simpa using hk
          by_cases hk1 : k1 = 0
          · subst hk1
            have h4 : ¬ l1 ≤ l0 := by omega
            go_enter Tryd.func41, Tryd.ntmps41
            go_wp2
            refine bodyPost_ret (v := rsV (0, 0, false)) (by simp [results, Tryd.results41, go_sem]) rfl ⟨rfl, ?_⟩
            repeat' (first | (with_reducible exact Grew.refl _) | (with_reducible refine Grew.setCell ?_ ?_ _) | (with_reducible refine Grew.drewN ?_ _) | (with_reducible refine Grew.reD ?_ _) | (with_reducible refine Grew.alloc ?_ _) | (dsimp only; omega))
          · have e2 : (k1 == 0) = false := by simpa using hk1
            by_cases hl : l0 = l1
            · subst hl
              have e3 : (k0 == k1) = false := by simp; exact fun h => h1 ⟨rfl, h⟩
              clear e0
              go_enter Tryd.func41, Tryd.ntmps41
              go_wp2
              refine bodyPost_ret (v := rsV (0, 0, false)) (by simp [results, Tryd.results41, go_sem]) rfl ⟨rfl, ?_⟩
              repeat' (first | (with_reducible exact Grew.refl _) | (with_reducible refine Grew.setCell ?_ ?_ _) | (with_reducible refine Grew.drewN ?_ _) | (with_reducible refine Grew.reD ?_ _) | (with_reducible refine Grew.alloc ?_ _) | (dsimp only; omega))
            · have e3 : (l0 == l1) = false := by simpa using hl
              clear e0
              go_enter Tryd.func41, Tryd.ntmps41
              go_wp2
              refine bodyPost_ret (v := rsV (0, 0, false)) (by simp [results, Tryd.results41, go_sem]) rfl ⟨rfl, ?_⟩
              repeat' (first | (with_reducible exact Grew.refl _) | (with_reducible refine Grew.setCell ?_ ?_ _) | (with_reducible refine Grew.drewN ?_ _) | (with_reducible refine Grew.reD ?_ _) | (with_reducible refine Grew.alloc ?_ _) | (dsimp only; omega))
end Go.Proofs.YtnhhmndnmkkhlaaDoor
