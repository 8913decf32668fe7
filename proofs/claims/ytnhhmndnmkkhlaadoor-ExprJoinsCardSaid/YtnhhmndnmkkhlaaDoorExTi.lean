/- The reference's join and Join, at every two types. -/
import Derived.Test.YtnhhmndnmkkhlaaDoorExTc
import Derived.Test.YtnhhmndnmkkhlaaDoorExTW
namespace Go.Proofs.YtnhhmndnmkkhlaaDoor
open Go.RowKit Go.Sort
set_option linter.unusedVariables false
set_option linter.unusedSimpArgs false
set_option maxRecDepth 20000

abbrev AnyB : Nat → Prop := fun _ => True
theorem NzC.z : NzC zT := fun i hi => absurd hi (by omega)
theorem re_nz : ∀ (s t : Ty), NzC s → NzC t → NzC (reT s t).1
  | .nil, _, _, _ => by unfold reT; exact NzC.z
  | .mk k m f, .nil, _, _ => by unfold reT; exact NzC.z
  | .mk k m f, .mk k' m' f', h, h' => by
    have ih := re_nz (f 0) (f' 0)
    unfold reT
    by_cases hk : k ≠ k'
    · rw [if_pos hk]; exact NzC.z
    · rw [if_neg hk]
      by_cases h0 : m = 0
      · rw [if_pos h0]; exact h'
      · rw [if_neg h0]
        by_cases h1 : m' = 0
        · rw [if_pos h1]; exact h
        · rw [if_neg h1]
          by_cases h2 : (reT (f 0) (f' 0)).2 = false
          · rw [if_pos h2]; exact NzC.z
          · rw [if_neg h2]
            intro i _
            have a := h 0 (by omega)
            have b := h' 0 (by omega)
            refine ⟨?_, ih a.2 b.2⟩
            exact re_knd _ _ a.1 b.1 (by simpa using h2)
where
  re_knd : ∀ (s t : Ty), s.knd ≠ 0 → t.knd ≠ 0 → (reT s t).2 = true → (reT s t).1.knd ≠ 0
  | .nil, _, h, _, _ => absurd rfl h
  | .mk k m f, .nil, _, h, _ => absurd rfl h
  | .mk k m f, .mk k' m' f', h, h', g => by
    unfold reT at g ⊢
    by_cases hk : k ≠ k'
    · rw [if_pos hk] at g; cases g
    · rw [if_neg hk] at g ⊢
      by_cases h0 : m = 0
      · rw [if_pos h0]; exact h'
      · rw [if_neg h0] at g ⊢
        by_cases h1 : m' = 0
        · rw [if_pos h1]; exact h
        · rw [if_neg h1] at g ⊢
          by_cases h2 : (reT (f 0) (f' 0)).2 = false
          · rw [if_pos h2] at g; cases g
          · rw [if_neg h2]; exact h
theorem va_nz : ∀ (t : Ty) (d : Nat), vaT t d = true → t.knd ≠ 0 ∧ NzC t
  | .nil, d, h => by simp [vaT] at h
  | .mk k m f, d, h => by
    have ih := va_nz (f 0) (d + 1)
    unfold vaT at h
    by_cases h123 : k = 1 ∨ k = 2 ∨ k = 3
    · rw [if_pos h123] at h
      obtain rfl : m = 0 := by simpa using h
      exact ⟨by show k ≠ 0; omega, fun i hi => absurd hi (by omega)⟩
    · rw [if_neg h123] at h
      by_cases hb : k ≠ 4 ∨ 16 < d ∨ 1 < m
      · rw [if_pos hb] at h; cases h
      · rw [if_neg hb] at h
        refine ⟨by show k ≠ 0; omega, fun i hi => ?_⟩
        obtain rfl : i = 0 := by omega
        by_cases h0 : m = 0
        · omega
        · rw [if_neg h0] at h
          exact ih h

/-- The values of the operations of the region that joins the elements. -/
def PJ (b1 b2 : Nat) (q1 q2 : Option Addr) (n1 e1 n2 e2 : Nat) (u1 u2 : Nat) (o1 o2 : Nat) (v1 v2 : Value) (ok : Bool) (r : Ty) (bs : Nat) (j : Nat) (v : Value) (w : World) : Prop := match j with
  | 0 => v = .pointer (some ⟨b1, 1, none⟩)
  | 1 => v = .slice q1 n1 e1
  | 2 => v = .pointer (some ⟨u1, o1, none⟩)
  | 3 => v = v1
  | 4 => v = .pointer (some ⟨b2, 1, none⟩)
  | 5 => v = .slice q2 n2 e2
  | 6 => v = .pointer (some ⟨u2, o2, none⟩)
  | 7 => v = v2
  | 8 => ∃ u, v = .tuple #[u, .bool ok] ∧ TyIn w AnyB r u
  | 9 => ∃ u, v = .tuple #[u, .bool ok] ∧ TyIn w AnyB r u
  | 10 => TyIn w AnyB r v
  | 12 => ∃ b, v = .pointer (some ⟨b, 0, none⟩) ∧ Blk w b 28 [.int .i64 0, .slice none 0 0] ∧ bs ≤ b
  | _ => True
theorem PJ.grew {b1 b2 : Nat} {q1 q2 : Option Addr} {n1 e1 n2 e2 u1 u2 o1 o2 : Nat} {v1 v2 : Value} {ok : Bool} {r : Ty} {bs : Nat} (j : Nat) (v : Value) (w w' : World) (g : Grew w w') (h : PJ b1 b2 q1 q2 n1 e1 n2 e2 u1 u2 o1 o2 v1 v2 ok r bs j v w) : PJ b1 b2 q1 q2 n1 e1 n2 e2 u1 u2 o1 o2 v1 v2 ok r bs j v w' := by
  unfold PJ at *
  split at h
  case h_9 => obtain ⟨u, h1, h2⟩ := h; exact ⟨u, h1, h2.grew g⟩
  case h_10 => obtain ⟨u, h1, h2⟩ := h; exact ⟨u, h1, h2.grew g⟩
  case h_11 => exact TyIn.grew h g
  case h_12 => obtain ⟨b, h1, h2, h3⟩ := h; exact ⟨b, h1, h2.grew g, h3⟩
  all_goals exact h
def SJ (ok : Bool) (r : Ty) (bs : Nat) (w0 : World) (vs : Nat → Value) (w : World) : Prop := ∃ b k p m c, vs 12 = .pointer (some ⟨b, 0, none⟩) ∧ Blk w b 28 [.int .i64 k, .slice p m c] ∧ TyIn w (fun x => x ≠ b) r (tyV k p m c) ∧ Grew w0 w ∧ bs ≤ b ∧ ∃ u, vs 9 = .tuple #[u, .bool ok]
theorem SJ.ext {ok : Bool} {r : Ty} {bs : Nat} {w0 : World} (vs vs' : Nat → Value) (w : World) (h : ∀ k, k < 13 → [11, 14].contains k = false → vs k = vs' k) (hs : SJ ok r bs w0 vs w) : SJ ok r bs w0 vs' w := by
  obtain ⟨b, k, p, m, c, h1, h2, h3, h4, h5, h6⟩ := hs
  exact ⟨b, k, p, m, c, by rw [← h 12 (by omega) rfl]; exact h1, h2, h3, h4, h5, by rw [← h 9 (by omega) rfl]; exact h6⟩

set_option maxHeartbeats 4000000 in
theorem rjoin_any (s : Ty) : ∀ (t : Ty) (vs vt : Value) (w : World) (Q Q' : Nat → Prop), TyIn w Q s vs → TyIn w Q' t vt → NzC s → NzC t →
    Calls Tryd.prog 43 #[vs, vt] w fun e w' => ∃ v, e = .returned (.tuple #[v, .bool (reT s t).2]) ∧ TyIn w' AnyB (reT s t).1 v ∧ Grew w w' := by
  induction s with
  | nil => intro t vs vt w Q Q' h; exact h.elim
  | mk k m f ih =>
    intro t vs vt w Q Q' h h' hz hz'
    obtain ⟨k0, m0, f0, p, c, e, rfl⟩ := h.root
    simp only [Ty.mk.injEq] at e
    obtain ⟨rfl, rfl, rfl⟩ := e
    obtain ⟨k', m', f', p', c', rfl, rfl⟩ := h'.root
    have T1 := hide h
    have T2 := hide h'
    by_cases hk : k = k'
    · subst hk
      by_cases h0 : m = 0
      · subst h0
        rw [show reT (.mk k 0 f) (.mk k m' f') = (.mk k m' f', true) by unfold reT; simp]
        clear ih h h' hz hz'
        go_enter Tryd.func43, Tryd.ntmps43
        go_wp2
        refine name_bp fun wq hq => ?_
        have Gq : Grew w wq := by
          rw [hq]
          repeat' (first | (with_reducible exact Grew.refl _) | (with_reducible refine Grew.setCell ?_ ?_ _) | (with_reducible refine Grew.drewN ?_ _) | (with_reducible refine Grew.reD ?_ _) | (with_reducible refine Grew.alloc ?_ _) | (dsimp only; omega))
        have Bq : Blk wq (w.heap.size + 1 + 1) 28 [.int .i64 k, Value.slice p' m' c'] := by
          rw [hq]
          repeat' (first | (with_reducible assumption) | ((with_reducible refine Blk.new ?_); (first | (with_reducible rfl) | (simp only [World.size_alloc, World.size_setCell, size_drewN]; done))) | (with_reducible refine Blk.alloc ?_ _) | (with_reducible refine Blk.drewN ?_ _) | (with_reducible refine Blk.drew ?_) | (refine Blk.other ?_ (by omega) _) | fail)
        have q0 := Bq.cell 0 rfl
        have q1 := Bq.cell 1 rfl
        exact bodyPost_ret (v := (.tuple #[tyV k p' m' c', .bool true])) (by simp [results, Tryd.results43, go_sem, q0, q1]) rfl ⟨_, rfl, TyIn.weak (fun _ _ => trivial) (T2.out.grew Gq), Gq⟩
      · have h0f : ((m : Int) == 0) = false := by simp; omega
        by_cases h1 : m' = 0
        · subst h1
          rw [show reT (.mk k m f) (.mk k 0 f') = (.mk k m f, true) by unfold reT; simp [h0]]
          clear ih h h' hz hz'
          go_enter Tryd.func43, Tryd.ntmps43
          go_wp2
          refine name_bp fun wq hq => ?_
          have Gq : Grew w wq := by
            rw [hq]
            repeat' (first | (with_reducible exact Grew.refl _) | (with_reducible refine Grew.setCell ?_ ?_ _) | (with_reducible refine Grew.drewN ?_ _) | (with_reducible refine Grew.reD ?_ _) | (with_reducible refine Grew.alloc ?_ _) | (dsimp only; omega))
          have Bq : Blk wq (w.heap.size + 1 + 1) 28 [.int .i64 k, Value.slice p m c] := by
            rw [hq]
            repeat' (first | (with_reducible assumption) | ((with_reducible refine Blk.new ?_); (first | (with_reducible rfl) | (simp only [World.size_alloc, World.size_setCell, size_drewN]; done))) | (with_reducible refine Blk.alloc ?_ _) | (with_reducible refine Blk.drewN ?_ _) | (with_reducible refine Blk.drew ?_) | (refine Blk.other ?_ (by omega) _) | fail)
          have q0 := Bq.cell 0 rfl
          have q1 := Bq.cell 1 rfl
          exact bodyPost_ret (v := (.tuple #[tyV k p m c, .bool true])) (by simp [results, Tryd.results43, go_sem, q0, q1]) rfl ⟨_, rfl, TyIn.weak (fun _ _ => trivial) (T1.out.grew Gq), Gq⟩
        · have h1f : ((m' : Int) == 0) = false := by simp; omega
          obtain ⟨u1, o1, k1, m1, f1, p1, c1, rfl, hb1, -, e1, x0, x1, t1⟩ := h.kid (i := 0) (by omega)
          obtain ⟨u2, o2, k2, m2, f2, p2, c2, rfl, hb2, -, e2, y0, y1, t2⟩ := h'.kid (i := 0) (by omega)
          simp only [Nat.zero_mul, Nat.add_zero] at x0 x1 y0 y1
          have n1 := (hz 0 (by omega)).2
          have n2 := (hz' 0 (by omega)).2
          have KA := fun W (g : Grew w W) => hide (ih 0 (f' 0) _ _ W Q Q' (t1.grew g) (t2.grew g) n1 n2)
          have nr := hide (re_nz (f 0) (f' 0) n1 n2)
          rw [show reT (.mk k m f) (.mk k m' f') = (if (reT (f 0) (f' 0)).2 = false then (zT, false) else (.mk k 1 fun _ => (reT (f 0) (f' 0)).1, true)) by rw [reT]; simp [h0, h1]]
          generalize reT (f 0) (f' 0) = R at *
          obtain ⟨r, ok⟩ := R
          dsimp only at KA nr ⊢
          have hkk := h.1
          have hm : (0 : Int) < (m : Int) := by omega
          have hm' : (0 : Int) < (m' : Int) := by omega
          clear ih h h' hz hz' n1 n2 t1 t2 e1 e2 T1 T2
          cases ok with
          | false =>
            rw [if_pos rfl]
            go_enter Tryd.func43, Tryd.ntmps43
            go_wp2_with fail
            refine name_world fun w1 h1 => ?_
            have G1 : Grew w w1 := by
              rw [h1]
              repeat' (first | (with_reducible exact Grew.refl _) | (with_reducible refine Grew.setCell ?_ ?_ _) | (with_reducible refine Grew.drewN ?_ _) | (with_reducible refine Grew.reD ?_ _) | (with_reducible refine Grew.alloc ?_ _) | (with_reducible refine Grew.trans ?_ G1.out) | (dsimp only; omega))
            have B1_0 : Blk w1 (w.heap.size) 28 [.int .i64 k, .slice (some ⟨u1, o1, none⟩) m c] := by (rw [h1]; repeat' (first | (with_reducible assumption) | ((with_reducible refine Blk.new ?_); (first | (with_reducible rfl) | (simp only [World.size_alloc, World.size_setCell, size_drewN]; done))) | (with_reducible refine Blk.alloc ?_ _) | (with_reducible refine Blk.drewN ?_ _) | (with_reducible refine Blk.drew ?_) | (refine Blk.other ?_ (by omega) _) | fail))
            have B1_1 : Blk w1 (w.heap.size + 1) 28 [.int .i64 k, .slice (some ⟨u2, o2, none⟩) m' c'] := by (rw [h1]; repeat' (first | (with_reducible assumption) | ((with_reducible refine Blk.new ?_); (first | (with_reducible rfl) | (simp only [World.size_alloc, World.size_setCell, size_drewN]; done))) | (with_reducible refine Blk.alloc ?_ _) | (with_reducible refine Blk.drewN ?_ _) | (with_reducible refine Blk.drew ?_) | (refine Blk.other ?_ (by omega) _) | fail))
            have B1_2 : Blk w1 (w.heap.size + 1 + 1) 28 [.int .i64 0, .slice none 0 0] := by (rw [h1]; repeat' (first | (with_reducible assumption) | ((with_reducible refine Blk.new ?_); (first | (with_reducible rfl) | (simp only [World.size_alloc, World.size_setCell, size_drewN]; done))) | (with_reducible refine Blk.alloc ?_ _) | (with_reducible refine Blk.drewN ?_ _) | (with_reducible refine Blk.drew ?_) | (refine Blk.other ?_ (by omega) _) | fail))
            have z1 := G1.size
            replace G1 := hide G1
            clear h1
            have t1_0 := B1_0.lt
            have d1_0_0 := B1_0.cell 0 rfl
            have e1_0_0 := B1_0.free 0
            have d1_0_1 := B1_0.cell 1 rfl
            have e1_0_1 := B1_0.free 1
            have t1_1 := B1_1.lt
            have d1_1_0 := B1_1.cell 0 rfl
            have e1_1_0 := B1_1.free 0
            have d1_1_1 := B1_1.cell 1 rfl
            have e1_1_1 := B1_1.free 1
            have t1_2 := B1_2.lt
            have d1_2_0 := B1_2.cell 0 rfl
            have e1_2_0 := B1_2.free 0
            have d1_2_1 := B1_2.cell 1 rfl
            have e1_2_1 := B1_2.free 1
            have hm0 : 0 < m := by omega
            have hm0' : 0 < m' := by omega
            refine wp_region_two 13 15 [11, 14] [(25, 0), (26, 1), (27, 2), (28, 3), (29, 4), (30, 5), (31, 6), (32, 7), (33, 8), (24, 9), (34, 10), (35, 11), (6, 12), (7, 14)] (PJ w.heap.size (w.heap.size + 1) (some ⟨u1, o1, none⟩) (some ⟨u2, o2, none⟩) m c m' c' u1 u2 o1 o2 (tyV k1 p1 m1 c1) (tyV k2 p2 m2 c2) false r w1.heap.size) (fun _ v => v = .bool false) (SJ false r w1.heap.size w1) (by kernel_rfl) (by kernel_rfl) (by simp) rfl (by omega) (fun k h => by simp at h; omega) SJ.ext ?_
            refine lex_two 0 (by omega) (by omega) rfl rfl PJ.grew ?_ ?_
            · intro vs W hG hp
              simp [go_sem, evS, List.lookup, PJ, Grew.refl]
            refine lex_two 1 (by omega) (by omega) rfl rfl PJ.grew ?_ ?_
            · intro vs W hG hp
              have h0 := hp 0 (by omega) rfl (by kernel_rfl)
              simp only [PJ] at h0
              have Q := B1_0.grew hG
              have d0 := Q.cell 0 rfl
              have fr0 := Q.free 0
              have d1 := Q.cell 1 rfl
              have fr1 := Q.free 1
              simp [go_sem, evS, List.lookup, PJ, Grew.refl, h0, d0, d1]
            refine lex_two 2 (by omega) (by omega) rfl rfl PJ.grew ?_ ?_
            · intro vs W hG hp
              have h1 := hp 1 (by omega) rfl (by kernel_rfl)
              simp only [PJ] at h1
              simp [go_sem, evS, List.lookup, PJ, Grew.refl, h1, hm, hm', hm0, hm0']
            refine lex_two 3 (by omega) (by omega) rfl rfl PJ.grew ?_ ?_
            · intro vs W hG hp
              have h2 := hp 2 (by omega) rfl (by kernel_rfl)
              simp only [PJ] at h2
              have GW := G1.out.trans hG
              have y0' := (GW.cell u1 _ hb1).trans x0
              have y1' := (GW.cell u1 _ hb1).trans x1
              simp [go_sem, evS, List.lookup, PJ, Grew.refl, h2, y0', y1']
            refine lex_two 4 (by omega) (by omega) rfl rfl PJ.grew ?_ ?_
            · intro vs W hG hp
              simp [go_sem, evS, List.lookup, PJ, Grew.refl]
            refine lex_two 5 (by omega) (by omega) rfl rfl PJ.grew ?_ ?_
            · intro vs W hG hp
              have h4 := hp 4 (by omega) rfl (by kernel_rfl)
              simp only [PJ] at h4
              have Q := B1_1.grew hG
              have d0 := Q.cell 0 rfl
              have fr0 := Q.free 0
              have d1 := Q.cell 1 rfl
              have fr1 := Q.free 1
              simp [go_sem, evS, List.lookup, PJ, Grew.refl, h4, d0, d1]
            refine lex_two 6 (by omega) (by omega) rfl rfl PJ.grew ?_ ?_
            · intro vs W hG hp
              have h5 := hp 5 (by omega) rfl (by kernel_rfl)
              simp only [PJ] at h5
              simp [go_sem, evS, List.lookup, PJ, Grew.refl, h5, hm, hm', hm0, hm0']
            refine lex_two 7 (by omega) (by omega) rfl rfl PJ.grew ?_ ?_
            · intro vs W hG hp
              have h6 := hp 6 (by omega) rfl (by kernel_rfl)
              simp only [PJ] at h6
              have GW := G1.out.trans hG
              have y0' := (GW.cell u2 _ hb2).trans y0
              have y1' := (GW.cell u2 _ hb2).trans y1
              simp [go_sem, evS, List.lookup, PJ, Grew.refl, h6, y0', y1']
            refine lex_two 8 (by omega) (by omega) rfl rfl PJ.grew ?_ ?_
            · intro vs W hG hp
              have h3 := hp 3 (by omega) rfl (by kernel_rfl)
              simp only [PJ] at h3
              have h7 := hp 7 (by omega) rfl (by kernel_rfl)
              simp only [PJ] at h7
              simp [go_sem, evS, List.lookup, h3, h7]
              refine ((KA W (G1.out.trans hG)).out).mono ?_
              rintro e w' ⟨u, rfl, T, g⟩
              exact ⟨_, rfl, g, u, rfl, T⟩
            refine lex_two 9 (by omega) (by omega) rfl rfl PJ.grew ?_ ?_
            · intro vs W hG hp
              obtain ⟨u, h8, T⟩ := hp 8 (by omega) rfl (by kernel_rfl)
              simp [go_sem, evS, List.lookup, h8]
              exact ⟨Grew.refl _, u, rfl, T⟩
            refine lex_two 10 (by omega) (by omega) rfl rfl PJ.grew ?_ ?_
            · intro vs W hG hp
              obtain ⟨u, h8, T⟩ := hp 9 (by omega) rfl (by kernel_rfl)
              simp [go_sem, evS, List.lookup, h8]
              exact ⟨Grew.refl _, T⟩
            refine lex_two_free 11 (by omega) rfl (by omega) rfl SJ.ext ?_ ?_
            · intro vs W hp _
              have h1 : ∃ u, vs 9 = .tuple #[u, .bool false] := by
                rcases hp with hp | hp
                · obtain ⟨u, h, -⟩ := hp 9 (by omega) rfl (by kernel_rfl)
                  exact ⟨u, h⟩
                · obtain ⟨b, k, p, m, c, -, -, -, -, -, h⟩ := hp
                  exact h
              obtain ⟨u, h1⟩ := h1
              simp [go_sem, evS, List.lookup, h1]
            refine lex_two 12 (by omega) (by omega) rfl rfl PJ.grew ?_ ?_
            · intro vs W hG hp
              simp [go_sem, evS, List.lookup]
              exact ⟨(Grew.refl _).alloc _, _, rfl, Blk.new rfl, hG.size⟩
            refine lex_two_store (by omega) rfl (by kernel_rfl) rfl SJ.ext ?_ ?_
            · intro vs W hG hp
              have H10 := hp 10 (by omega) rfl
              have H9 := hp 9 (by omega) rfl
              have H12 := hp 12 (by omega) rfl
              clear hp
              have ⟨u, hv9, _⟩ := H9
              have ⟨b, hv12, hB4, hle⟩ := H12
              have T10 : TyIn W AnyB r (vs 10) := H10
              clear H9 H12 H10
              obtain ⟨k3, m3, f3, p3, c3, -, hv10⟩ := T10.root
              rw [hv10] at T10
              have TA := TyIn.weak (Q' := fun x => x ≠ b) (fun x hx => hx.2) (T10.apart hB4 nr.out)
              have d0 := hB4.cell 0 rfl
              have fr0 := hB4.free 0
              have d1 := hB4.cell 1 rfl
              have fr1 := hB4.free 1
              have hlt := hB4.lt
              simp [go_sem, evS, List.lookup, hv10, hv12, d0, d1, fr0, fr1]
              exact ⟨b, k3, p3, m3, c3, hv12, (hB4.set' 0 _ rfl).set' 1 _ rfl, TyIn.kept (((Kept.refl _ _).set (.inl (by simp)) _ _).set (.inl (by simp)) _ _) TA, (hG.setCell hle _).setCell hle _, hle, u, hv9⟩
            refine lex_two_free 14 (by omega) rfl (by omega) rfl SJ.ext ?_ ?_
            · intro vs W _ hp
              have h4 : vs 11 = .bool false := hp 11 rfl (by kernel_rfl)
              simp [go_sem, evS, List.lookup, h4]
            refine lex_nil ?_
            rintro vs w2 ⟨⟨h, -, -⟩ | ⟨-, -, b, k3, p3, m3, c3, hv12, hB, hT, hG, hle, -⟩, hA⟩
            · cases h
            replace hA := hA 14 rfl rfl
            simp only [fillS, List.foldl_cons, List.foldl_nil, hv12, hA]
            generalize vs 0 = vx0
            generalize vs 1 = vx1
            generalize vs 2 = vx2
            generalize vs 3 = vx3
            generalize vs 4 = vx4
            generalize vs 5 = vx5
            generalize vs 6 = vx6
            generalize vs 7 = vx7
            generalize vs 8 = vx8
            generalize vs 9 = vx9
            generalize vs 10 = vx10
            generalize vs 11 = vx11
            clear hv12 hA vs
            have G2 := hide (G1.out.trans hG)
            have B2_0 := B1_0.grew hG
            have B2_1 := B1_1.grew hG
            have B2_2 := B1_2.grew hG
            have B2_3 := hB
            have T2 := hide (TyIn.apart B2_2 nr.out hT)
            have z2 := G2.out.size
            clear hG hB hT KA x0 x1 y0 y1
            have t2_0 := B2_0.lt
            have d2_0_0 := B2_0.cell 0 rfl
            have e2_0_0 := B2_0.free 0
            have d2_0_1 := B2_0.cell 1 rfl
            have e2_0_1 := B2_0.free 1
            have t2_1 := B2_1.lt
            have d2_1_0 := B2_1.cell 0 rfl
            have e2_1_0 := B2_1.free 0
            have d2_1_1 := B2_1.cell 1 rfl
            have e2_1_1 := B2_1.free 1
            have t2_2 := B2_2.lt
            have d2_2_0 := B2_2.cell 0 rfl
            have e2_2_0 := B2_2.free 0
            have d2_2_1 := B2_2.cell 1 rfl
            have e2_2_1 := B2_2.free 1
            have t2_3 := B2_3.lt
            have d2_3_0 := B2_3.cell 0 rfl
            have e2_3_0 := B2_3.free 0
            have d2_3_1 := B2_3.cell 1 rfl
            have e2_3_1 := B2_3.free 1
            go_simp
            go_wp2
            refine name_bp fun wq hq => ?_
            have Gq : Grew w wq := by
              rw [hq]
              repeat' (first | (with_reducible exact G2.out) | (with_reducible refine Grew.setCell ?_ ?_ _) | (with_reducible refine Grew.alloc ?_ _) | (dsimp only; omega))
            have Bq : Blk wq (w.heap.size + 1 + 1) 28 [.int .i64 0, .slice none 0 0] := by
              rw [hq]
              repeat (with_reducible refine Blk.alloc ?_ _)
              exact (B2_2.set' 0 _ rfl).set' 1 _ rfl
            have q0 := Bq.cell 0 rfl
            have q1 := Bq.cell 1 rfl
            exact bodyPost_ret (v := .tuple #[tyV 0 none 0 0, .bool false]) (by simp [results, Tryd.results43, go_sem, q0, q1]) rfl ⟨_, rfl, TyIn.leaf (by omega), Gq⟩
          | true =>
            rw [if_neg (by simp)]
            go_enter Tryd.func43, Tryd.ntmps43
            go_wp2_with fail
            refine name_world fun w1 h1 => ?_
            have G1 : Grew w w1 := by
              rw [h1]
              repeat' (first | (with_reducible exact Grew.refl _) | (with_reducible refine Grew.setCell ?_ ?_ _) | (with_reducible refine Grew.drewN ?_ _) | (with_reducible refine Grew.reD ?_ _) | (with_reducible refine Grew.alloc ?_ _) | (with_reducible refine Grew.trans ?_ G1.out) | (dsimp only; omega))
            have B1_0 : Blk w1 (w.heap.size) 28 [.int .i64 k, .slice (some ⟨u1, o1, none⟩) m c] := by (rw [h1]; repeat' (first | (with_reducible assumption) | ((with_reducible refine Blk.new ?_); (first | (with_reducible rfl) | (simp only [World.size_alloc, World.size_setCell, size_drewN]; done))) | (with_reducible refine Blk.alloc ?_ _) | (with_reducible refine Blk.drewN ?_ _) | (with_reducible refine Blk.drew ?_) | (refine Blk.other ?_ (by omega) _) | fail))
            have B1_1 : Blk w1 (w.heap.size + 1) 28 [.int .i64 k, .slice (some ⟨u2, o2, none⟩) m' c'] := by (rw [h1]; repeat' (first | (with_reducible assumption) | ((with_reducible refine Blk.new ?_); (first | (with_reducible rfl) | (simp only [World.size_alloc, World.size_setCell, size_drewN]; done))) | (with_reducible refine Blk.alloc ?_ _) | (with_reducible refine Blk.drewN ?_ _) | (with_reducible refine Blk.drew ?_) | (refine Blk.other ?_ (by omega) _) | fail))
            have B1_2 : Blk w1 (w.heap.size + 1 + 1) 28 [.int .i64 0, .slice none 0 0] := by (rw [h1]; repeat' (first | (with_reducible assumption) | ((with_reducible refine Blk.new ?_); (first | (with_reducible rfl) | (simp only [World.size_alloc, World.size_setCell, size_drewN]; done))) | (with_reducible refine Blk.alloc ?_ _) | (with_reducible refine Blk.drewN ?_ _) | (with_reducible refine Blk.drew ?_) | (refine Blk.other ?_ (by omega) _) | fail))
            have z1 := G1.size
            replace G1 := hide G1
            clear h1
            have t1_0 := B1_0.lt
            have d1_0_0 := B1_0.cell 0 rfl
            have e1_0_0 := B1_0.free 0
            have d1_0_1 := B1_0.cell 1 rfl
            have e1_0_1 := B1_0.free 1
            have t1_1 := B1_1.lt
            have d1_1_0 := B1_1.cell 0 rfl
            have e1_1_0 := B1_1.free 0
            have d1_1_1 := B1_1.cell 1 rfl
            have e1_1_1 := B1_1.free 1
            have t1_2 := B1_2.lt
            have d1_2_0 := B1_2.cell 0 rfl
            have e1_2_0 := B1_2.free 0
            have d1_2_1 := B1_2.cell 1 rfl
            have e1_2_1 := B1_2.free 1
            have hm0 : 0 < m := by omega
            have hm0' : 0 < m' := by omega
            refine wp_region_two 13 15 [11, 14] [(25, 0), (26, 1), (27, 2), (28, 3), (29, 4), (30, 5), (31, 6), (32, 7), (33, 8), (24, 9), (34, 10), (35, 11), (6, 12), (7, 14)] (PJ w.heap.size (w.heap.size + 1) (some ⟨u1, o1, none⟩) (some ⟨u2, o2, none⟩) m c m' c' u1 u2 o1 o2 (tyV k1 p1 m1 c1) (tyV k2 p2 m2 c2) true r w1.heap.size) (fun _ v => v = .bool true) (SJ true r w1.heap.size w1) (by kernel_rfl) (by kernel_rfl) (by simp) rfl (by omega) (fun k h => by simp at h; omega) SJ.ext ?_
            refine lex_two 0 (by omega) (by omega) rfl rfl PJ.grew ?_ ?_
            · intro vs W hG hp
              simp [go_sem, evS, List.lookup, PJ, Grew.refl]
            refine lex_two 1 (by omega) (by omega) rfl rfl PJ.grew ?_ ?_
            · intro vs W hG hp
              have h0 := hp 0 (by omega) rfl (by kernel_rfl)
              simp only [PJ] at h0
              have Q := B1_0.grew hG
              have d0 := Q.cell 0 rfl
              have fr0 := Q.free 0
              have d1 := Q.cell 1 rfl
              have fr1 := Q.free 1
              simp [go_sem, evS, List.lookup, PJ, Grew.refl, h0, d0, d1]
            refine lex_two 2 (by omega) (by omega) rfl rfl PJ.grew ?_ ?_
            · intro vs W hG hp
              have h1 := hp 1 (by omega) rfl (by kernel_rfl)
              simp only [PJ] at h1
              simp [go_sem, evS, List.lookup, PJ, Grew.refl, h1, hm, hm', hm0, hm0']
            refine lex_two 3 (by omega) (by omega) rfl rfl PJ.grew ?_ ?_
            · intro vs W hG hp
              have h2 := hp 2 (by omega) rfl (by kernel_rfl)
              simp only [PJ] at h2
              have GW := G1.out.trans hG
              have y0' := (GW.cell u1 _ hb1).trans x0
              have y1' := (GW.cell u1 _ hb1).trans x1
              simp [go_sem, evS, List.lookup, PJ, Grew.refl, h2, y0', y1']
            refine lex_two 4 (by omega) (by omega) rfl rfl PJ.grew ?_ ?_
            · intro vs W hG hp
              simp [go_sem, evS, List.lookup, PJ, Grew.refl]
            refine lex_two 5 (by omega) (by omega) rfl rfl PJ.grew ?_ ?_
            · intro vs W hG hp
              have h4 := hp 4 (by omega) rfl (by kernel_rfl)
              simp only [PJ] at h4
              have Q := B1_1.grew hG
              have d0 := Q.cell 0 rfl
              have fr0 := Q.free 0
              have d1 := Q.cell 1 rfl
              have fr1 := Q.free 1
              simp [go_sem, evS, List.lookup, PJ, Grew.refl, h4, d0, d1]
            refine lex_two 6 (by omega) (by omega) rfl rfl PJ.grew ?_ ?_
            · intro vs W hG hp
              have h5 := hp 5 (by omega) rfl (by kernel_rfl)
              simp only [PJ] at h5
              simp [go_sem, evS, List.lookup, PJ, Grew.refl, h5, hm, hm', hm0, hm0']
            refine lex_two 7 (by omega) (by omega) rfl rfl PJ.grew ?_ ?_
            · intro vs W hG hp
              have h6 := hp 6 (by omega) rfl (by kernel_rfl)
              simp only [PJ] at h6
              have GW := G1.out.trans hG
              have y0' := (GW.cell u2 _ hb2).trans y0
              have y1' := (GW.cell u2 _ hb2).trans y1
              simp [go_sem, evS, List.lookup, PJ, Grew.refl, h6, y0', y1']
            refine lex_two 8 (by omega) (by omega) rfl rfl PJ.grew ?_ ?_
            · intro vs W hG hp
              have h3 := hp 3 (by omega) rfl (by kernel_rfl)
              simp only [PJ] at h3
              have h7 := hp 7 (by omega) rfl (by kernel_rfl)
              simp only [PJ] at h7
              simp [go_sem, evS, List.lookup, h3, h7]
              refine ((KA W (G1.out.trans hG)).out).mono ?_
              rintro e w' ⟨u, rfl, T, g⟩
              exact ⟨_, rfl, g, u, rfl, T⟩
            refine lex_two 9 (by omega) (by omega) rfl rfl PJ.grew ?_ ?_
            · intro vs W hG hp
              obtain ⟨u, h8, T⟩ := hp 8 (by omega) rfl (by kernel_rfl)
              simp [go_sem, evS, List.lookup, h8]
              exact ⟨Grew.refl _, u, rfl, T⟩
            refine lex_two 10 (by omega) (by omega) rfl rfl PJ.grew ?_ ?_
            · intro vs W hG hp
              obtain ⟨u, h8, T⟩ := hp 9 (by omega) rfl (by kernel_rfl)
              simp [go_sem, evS, List.lookup, h8]
              exact ⟨Grew.refl _, T⟩
            refine lex_two_free 11 (by omega) rfl (by omega) rfl SJ.ext ?_ ?_
            · intro vs W hp _
              have h1 : ∃ u, vs 9 = .tuple #[u, .bool true] := by
                rcases hp with hp | hp
                · obtain ⟨u, h, -⟩ := hp 9 (by omega) rfl (by kernel_rfl)
                  exact ⟨u, h⟩
                · obtain ⟨b, k, p, m, c, -, -, -, -, -, h⟩ := hp
                  exact h
              obtain ⟨u, h1⟩ := h1
              simp [go_sem, evS, List.lookup, h1]
            refine lex_two 12 (by omega) (by omega) rfl rfl PJ.grew ?_ ?_
            · intro vs W hG hp
              simp [go_sem, evS, List.lookup]
              exact ⟨(Grew.refl _).alloc _, _, rfl, Blk.new rfl, hG.size⟩
            refine lex_two_store (by omega) rfl (by kernel_rfl) rfl SJ.ext ?_ ?_
            · intro vs W hG hp
              have H10 := hp 10 (by omega) rfl
              have H9 := hp 9 (by omega) rfl
              have H12 := hp 12 (by omega) rfl
              clear hp
              have ⟨u, hv9, _⟩ := H9
              have ⟨b, hv12, hB4, hle⟩ := H12
              have T10 : TyIn W AnyB r (vs 10) := H10
              clear H9 H12 H10
              obtain ⟨k3, m3, f3, p3, c3, -, hv10⟩ := T10.root
              rw [hv10] at T10
              have TA := TyIn.weak (Q' := fun x => x ≠ b) (fun x hx => hx.2) (T10.apart hB4 nr.out)
              have d0 := hB4.cell 0 rfl
              have fr0 := hB4.free 0
              have d1 := hB4.cell 1 rfl
              have fr1 := hB4.free 1
              have hlt := hB4.lt
              simp [go_sem, evS, List.lookup, hv10, hv12, d0, d1, fr0, fr1]
              exact ⟨b, k3, p3, m3, c3, hv12, (hB4.set' 0 _ rfl).set' 1 _ rfl, TyIn.kept (((Kept.refl _ _).set (.inl (by simp)) _ _).set (.inl (by simp)) _ _) TA, (hG.setCell hle _).setCell hle _, hle, u, hv9⟩
            refine lex_two_free 14 (by omega) rfl (by omega) rfl SJ.ext ?_ ?_
            · intro vs W _ hp
              have h4 : vs 11 = .bool true := hp 11 rfl (by kernel_rfl)
              simp [go_sem, evS, List.lookup, h4]
            refine lex_nil ?_
            rintro vs w2 ⟨⟨h, -, -⟩ | ⟨-, -, b, k3, p3, m3, c3, hv12, hB, hT, hG, hle, -⟩, hA⟩
            · cases h
            replace hA := hA 14 rfl rfl
            simp only [fillS, List.foldl_cons, List.foldl_nil, hv12, hA]
            generalize vs 0 = vx0
            generalize vs 1 = vx1
            generalize vs 2 = vx2
            generalize vs 3 = vx3
            generalize vs 4 = vx4
            generalize vs 5 = vx5
            generalize vs 6 = vx6
            generalize vs 7 = vx7
            generalize vs 8 = vx8
            generalize vs 9 = vx9
            generalize vs 10 = vx10
            generalize vs 11 = vx11
            clear hv12 hA vs
            have G2 := hide (G1.out.trans hG)
            have B2_0 := B1_0.grew hG
            have B2_1 := B1_1.grew hG
            have B2_2 := B1_2.grew hG
            have B2_3 := hB
            have T2 := hide (TyIn.apart B2_2 nr.out hT)
            have z2 := G2.out.size
            clear hG hB hT KA x0 x1 y0 y1
            have t2_0 := B2_0.lt
            have d2_0_0 := B2_0.cell 0 rfl
            have e2_0_0 := B2_0.free 0
            have d2_0_1 := B2_0.cell 1 rfl
            have e2_0_1 := B2_0.free 1
            have t2_1 := B2_1.lt
            have d2_1_0 := B2_1.cell 0 rfl
            have e2_1_0 := B2_1.free 0
            have d2_1_1 := B2_1.cell 1 rfl
            have e2_1_1 := B2_1.free 1
            have t2_2 := B2_2.lt
            have d2_2_0 := B2_2.cell 0 rfl
            have e2_2_0 := B2_2.free 0
            have d2_2_1 := B2_2.cell 1 rfl
            have e2_2_1 := B2_2.free 1
            have t2_3 := B2_3.lt
            have d2_3_0 := B2_3.cell 0 rfl
            have e2_3_0 := B2_3.free 0
            have d2_3_1 := B2_3.cell 1 rfl
            have e2_3_1 := B2_3.free 1
            go_simp
            go_wp2
            refine name_bp fun wq hq => ?_
            have Gq : Grew w wq := by
              rw [hq]
              repeat' (first | (with_reducible exact G2.out) | (with_reducible refine Grew.setCell ?_ ?_ _) | (with_reducible refine Grew.alloc ?_ _) | (dsimp only; omega))
            have Bq : Blk wq (w.heap.size + 1 + 1) 28 [.int .i64 k, .slice (some ⟨w2.heap.size, 0, none⟩) 1 1] := by
              rw [hq]
              repeat (with_reducible refine Blk.alloc ?_ _)
              exact (B2_2.set' 0 _ rfl).set' 1 _ rfl
            have Nq : Blk wq w2.heap.size 28 [.int .i64 k3, .slice p3 m3 c3] := by
              rw [hq]
              exact Blk.new (by simp)
            have Kq : Kept (fun x => x ≠ b ∧ x ≠ w.heap.size + 1 + 1) w2 wq := by
              rw [hq]
              repeat' (first | (with_reducible exact Kept.refl _ _) | (with_reducible refine Kept.alloc ?_ _) | (refine Kept.set ?_ (.inl (by simp)) _ _))
            have q0 := Bq.cell 0 rfl
            have q1 := Bq.cell 1 rfl
            exact bodyPost_ret (v := .tuple #[tyV k (some ⟨w2.heap.size, 0, none⟩) 1 1, .bool true]) (by simp [results, Tryd.results43, go_sem, q0, q1]) rfl ⟨_, rfl,
              ⟨hkk, _, _, rfl, by omega, fun _ => ⟨_, _, rfl, Nq.lt, trivial, fun j hj => by
                obtain rfl : j = 0 := by omega
                exact ⟨_, _, Nq.cell 0 rfl, Nq.cell 1 rfl, TyIn.weak (fun _ _ => trivial) (TyIn.kept Kq T2.out)⟩⟩⟩, Gq⟩
    · have hkf : (k == k') = false := by simpa using hk
      rw [show reT (.mk k m f) (.mk k' m' f') = (zT, false) by unfold reT; rw [if_pos hk]]
      clear ih h h' hz hz' T1 T2
      go_enter Tryd.func43, Tryd.ntmps43
      go_wp2
      refine name_bp fun wq hq => ?_
      have Gq : Grew w wq := by
        rw [hq]
        repeat' (first | (with_reducible exact Grew.refl _) | (with_reducible refine Grew.setCell ?_ ?_ _) | (with_reducible refine Grew.drewN ?_ _) | (with_reducible refine Grew.reD ?_ _) | (with_reducible refine Grew.alloc ?_ _) | (dsimp only; omega))
      have Bq : Blk wq (w.heap.size + 1 + 1) 28 [.int .i64 0, Value.slice none 0 0] := by
        rw [hq]
        repeat' (first | (with_reducible assumption) | ((with_reducible refine Blk.new ?_); (first | (with_reducible rfl) | (simp only [World.size_alloc, World.size_setCell, size_drewN]; done))) | (with_reducible refine Blk.alloc ?_ _) | (with_reducible refine Blk.drewN ?_ _) | (with_reducible refine Blk.drew ?_) | (refine Blk.other ?_ (by omega) _) | fail)
      have q0 := Bq.cell 0 rfl
      have q1 := Bq.cell 1 rfl
      exact bodyPost_ret (v := (.tuple #[tyV 0 none 0 0, .bool false])) (by simp [results, Tryd.results43, go_sem, q0, q1]) rfl ⟨_, rfl, TyIn.leaf (by omega), Gq⟩
end Go.Proofs.YtnhhmndnmkkhlaaDoor
