/- The reference's SameType and join, at every two types. -/
import Derived.Test.YtnhhmndnmkkhlaaDoorExTc
import Derived.Test.YtnhhmndnmkkhlaaDoorExTW
namespace Go.Proofs.YtnhhmndnmkkhlaaDoor
open Go.RowKit Go.Sort
set_option linter.unusedVariables false
set_option linter.unusedSimpArgs false

theorem smT_all {k k' : Int} {m m' : Nat} {f f' : Nat → Ty} : smT (.mk k m f) (.mk k' m' f') = true ↔ (k = k' ∧ m = m' ∧ ∀ i, i < m → smT (f i) (f' i) = true) := by
  rw [smT]
  by_cases h : k = k' ∧ m = m'
  · rw [if_pos h, List.all_eq_true]
    exact ⟨fun g => ⟨h.1, h.2, fun i hi => g i (List.mem_range.2 hi)⟩, fun g i hi => g.2.2 i (List.mem_range.1 hi)⟩
  · rw [if_neg h]
    exact ⟨fun g => (by cases g), fun g => absurd ⟨g.1, g.2.1⟩ h⟩
set_option maxRecDepth 20000 in
set_option maxHeartbeats 4000000 in
theorem SameType_any (t : Ty) : ∀ (t' : Ty) (v v' : Value) (w : World) (Q Q' : Nat → Prop), TyIn w Q t v → TyIn w Q' t' v' → Calls Tryd.prog 13 #[v, v'] w fun e w' => e = .returned (.bool (smT t t')) ∧ Grew w w' := by
  induction t with
  | nil => intro t' v v' w Q Q' h _; exact h.elim
  | mk k m f ih =>
    intro t' v v' w Q Q' h h'
    obtain ⟨k0, m0, f0, p, c, e, rfl⟩ := h.root
    simp only [Ty.mk.injEq] at e
    obtain ⟨rfl, rfl, rfl⟩ := e
    obtain ⟨k', m', f', p', c', rfl, rfl⟩ := h'.root
    by_cases hk : k = k'
    · subst hk
      by_cases hm : m = m'
      · subst hm
        have hmb : m ≤ 9223372036854775807 := by
          obtain ⟨_, _, _, e, hc, _⟩ := h
          omega
        have H := hide h
        have H' := hide h'
        have IH := hide ih
        obtain ⟨S, hS⟩ : ∃ S, S = smT (.mk k m f) (.mk k m f') := ⟨_, rfl⟩
        rw [← hS]
        replace hS := hide hS
        clear ih h h'
        go_enter Tryd.func13, Tryd.ntmps13
        go_wp2
        refine name_world fun w1 h1 => ?_
        have b0 : Hid (Blk w1 w.heap.size 28 [.int .i64 k, .slice p m c]) := by
          refine hide ?_; rw [h1]; repeat' (first | (with_reducible assumption) | ((with_reducible refine Blk.new ?_); (first | (with_reducible rfl) | (simp only [World.size_alloc, World.size_setCell, size_drewN]; done))) | (with_reducible refine Blk.alloc ?_ _) | (with_reducible refine Blk.drewN ?_ _) | (with_reducible refine Blk.drew ?_) | (refine Blk.other ?_ (by omega) _) | fail)
        have b1 : Hid (Blk w1 (w.heap.size + 1) 28 [.int .i64 k, .slice p' m c']) := by
          refine hide ?_; rw [h1]; repeat' (first | (with_reducible assumption) | ((with_reducible refine Blk.new ?_); (first | (with_reducible rfl) | (simp only [World.size_alloc, World.size_setCell, size_drewN]; done))) | (with_reducible refine Blk.alloc ?_ _) | (with_reducible refine Blk.drewN ?_ _) | (with_reducible refine Blk.drew ?_) | (refine Blk.other ?_ (by omega) _) | fail)
        have G1 : Hid (Grew w w1) := by rw [h1]; exact ((Grew.refl _).alloc _).alloc _
        clear h1
        go_loopg [5] (m + 1) (fun gh vk wr => ∃ (i : Nat), vk = .int .i64 (i : Int) ∧ i ≤ m ∧ m - i < gh ∧ Hid (∀ j, j < i → smT (f j) (f' j) = true) ∧ Hid (Grew w wr) ∧ Hid (Blk wr w.heap.size 28 [.int .i64 k, .slice p m c]) ∧ Hid (Blk wr (w.heap.size + 1) 28 [.int .i64 k, .slice p' m c']))
        case atStart => exact ⟨0, by go_num, by omega, by omega, hide (fun j hj => absurd hj (by omega)), G1, b0, b1⟩
        case round =>
          clear b0 b1 G1
          obtain ⟨wo, rfl⟩ : ∃ wo : World, wo = wr := ⟨_, rfl⟩
          obtain ⟨i, rfl, hi, hgh, A, G, V0, V1⟩ := hrel
          have B0 := V0.out
          have B1 := V1.out
          have a0 := B0.cell 0 rfl
          have af0 := B0.free 0
          have a1 := B0.cell 1 rfl
          have af1 := B0.free 1
          have alt := B0.lt
          have d0 := B1.cell 0 rfl
          have df0 := B1.free 0
          have d1 := B1.cell 1 rfl
          have df1 := B1.free 1
          have dlt := B1.lt
          by_cases hlt : i < m
          · have hltz : (i : Int) < (m : Int) := by omega
            have wi : IntKind.i64.wrap ((i : Int) + 1) = (i : Int) + 1 := wr (by omega) (by omega)
            obtain ⟨b, off, k2, m2, f2, p2, c2, rfl, hb, hq, -, y0, y1, h3⟩ := H.out.kid hlt
            obtain ⟨b', off', k3, m3, f3, p3, c3, rfl, hb', hq', -, x0, x1, h4⟩ := H'.out.kid hlt
            have KA := fun W (g : Grew w W) => hide (IH.out i (f' i) _ _ W Q Q' (h3.grew g) (h4.grew g))
            have l1 : b < wo.heap.size := Nat.lt_of_lt_of_le hb G.out.size
            have l2 : b' < wo.heap.size := Nat.lt_of_lt_of_le hb' G.out.size
            have KK := fun n os => KA (Go.Sort.grow (reD wo n) os) (((G.out).reD n).grow os)
            have u0 := cell_gr l1 ((G.out.cell b _ hb).trans y0)
            have u1 := cell_gr l1 ((G.out.cell b _ hb).trans y1)
            have t0 := cell_gr l2 ((G.out.cell b' _ hb').trans x0)
            have t1 := cell_gr l2 ((G.out.cell b' _ hb').trans x1)
            have HS := hide (show ∀ r, r = smT (f i) (f' i) → r = smT (f i) (f' i) from fun _ h => h)
            obtain ⟨r, hr⟩ : ∃ r, r = smT (f i) (f' i) := ⟨_, rfl⟩
            rw [← hr] at KK
            replace hr := hide hr
            have B2_0 := B0
            have B2_1 := B1
            clear KA h3 h4 IH H H' y0 y1 x0 x1 HS V0 V1
            go_wp2_with fail
            clear B0 B1 a0 a1 af0 af1 alt d0 d1 df0 df1 dlt
            have B0_0 := B2_0
            have B0_1 := B2_1
            have g0_0_0 := fun m os => (B0_0.grow m os).cell 0 rfl
            have g0_0_1 := fun m os => (B0_0.grow m os).cell 1 rfl
            have g0_1_0 := fun m os => (B0_1.grow m os).cell 0 rfl
            have g0_1_1 := fun m os => (B0_1.grow m os).cell 1 rfl
            refine wp_region_calm (by kernel_rfl) (by kernel_rfl) ?_
            repeat (first | (refine lex_skip rfl (by rfl) ?_) | (refine lex_calm rfl (by rfl) (fun K hK => ?_); go_simp; first | (refine hK _ ?_; clear hK K) | (apply Exists.intro; refine ⟨fun _ _ => ?_, hK _ ?_⟩; (with_reducible exact (KK _ _).out); clear hK K)))
            refine lex_nil ?_
            intro w1 G1
            have B1_0 : Blk w1 (w.heap.size) 28 [.int .i64 k, .slice (some ⟨b, off, none⟩) m c] := B0_0.grew G1
            have B1_1 : Blk w1 (w.heap.size + 1) 28 [.int .i64 k, .slice (some ⟨b', off', none⟩) m c'] := B0_1.grew G1
            have z1 := G1.size
            replace G1 := hide G1
            have t1_0 := B1_0.lt
            have d1_0_0 := B1_0.cell 0 rfl
            have e1_0_0 := B1_0.free 0
            have d1_0_1 := B1_0.cell 1 rfl
            have e1_0_1 := B1_0.free 1
            have t1_1 := B1_1.lt
            have d1_1_0 := B1_1.cell 0 rfl
            have e1_1_0 := B1_1.free 0
            have d1_1_1 := B1_1.cell 1 rfl
            have e1_1_1 := B1_1.free 1
            clear u0 u1 t0 t1 KK
            cases r with
            | true =>
              go_wp2
              go_roundg (m - i)
              case measure => omega
              case rel =>
                exact ⟨i + 1, by go_num, by omega, by omega, hide (fun j hj => by
                  rcases Nat.lt_succ_iff_lt_or_eq.1 hj with h | rfl
                  · exact A.out j h
                  · exact hr.out.symm), hide (G.out.trans G1.out), hide B1_0, hide B1_1⟩
            | false =>
              have hSf : S = false := by
                rw [hS.out, Bool.eq_false_iff]
                intro g
                have := (smT_all.1 g).2.2 i hlt
                rw [← hr.out] at this
                cases this
              go_wp2
              go_ret
              exact ⟨by first | rfl | (rw [hSf]; rfl), G.out.trans G1.out⟩
          · have hltz : ¬ (i : Int) < (m : Int) := by omega
            obtain rfl : i = m := by omega
            have hSt : S = true := by rw [hS.out, smT_all]; exact ⟨rfl, rfl, A.out⟩
            go_wp2
            go_ret
            exact ⟨by first | rfl | (rw [hSt]; rfl), G.out⟩
      · rw [show smT (.mk k m f) (.mk k m' f') = false by rw [Bool.eq_false_iff]; intro g; exact hm (smT_all.1 g).2.1]
        have hmf : ((m : Int) == (m' : Int)) = false := by simp; omega
        clear ih h h'
        go_enter Tryd.func13, Tryd.ntmps13
        go_wp2
        go_ret
        refine ⟨rfl, ?_⟩
        repeat' (first | (with_reducible exact Grew.refl _) | (with_reducible refine Grew.setCell ?_ ?_ _) | (with_reducible refine Grew.drewN ?_ _) | (with_reducible refine Grew.reD ?_ _) | (with_reducible refine Grew.alloc ?_ _) | (dsimp only; omega))
    · rw [show smT (.mk k m f) (.mk k' m' f') = false by rw [Bool.eq_false_iff]; intro g; exact hk (smT_all.1 g).1]
      have hkf : (k == k') = false := by simpa using hk
      clear ih h h'
      go_enter Tryd.func13, Tryd.ntmps13
      go_wp2
      go_ret
      refine ⟨rfl, ?_⟩
      repeat' (first | (with_reducible exact Grew.refl _) | (with_reducible refine Grew.setCell ?_ ?_ _) | (with_reducible refine Grew.drewN ?_ _) | (with_reducible refine Grew.reD ?_ _) | (with_reducible refine Grew.alloc ?_ _) | (dsimp only; omega))
end Go.Proofs.YtnhhmndnmkkhlaaDoor
