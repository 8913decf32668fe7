/- The law FontScales returns true for every slice of integers; no condition. -/
import Derived.Test.YtfiaongnogiegaaFoV
import Derived.Test.YtfiaongnogiegaaFoX
namespace Go.Proofs.Ytfiaongnogiegaa
open Go.RowKit Go.Sort
set_option linter.unusedVariables false
set_option linter.unusedSimpArgs false

theorem Own3.but {B sb : Nat} {F : Fn} {s : Sl} {W W' : World} (h : Own3 B F s W) (b : But sb W W') (hs : sb < B) : Own3 B F s W' :=
  ⟨own_move h.a fun k hk => b.block k (h.a.lt k hk).2 (by have := (h.a.lt k hk).1; omega), own_move h.k fun k hk => b.block k (h.k.lt k hk).2 (by have := (h.k.lt k hk).1; omega), own_move h.l fun k hk => b.block k (h.l.lt k hk).2 (by have := (h.l.lt k hk).1; omega)⟩
theorem Own3.grew {B : Nat} {F : Fn} {s : Sl} {W W' : World} (h : Own3 B F s W) (g : Grew W W') : Own3 B F s W' :=
  ⟨own_move h.a fun k hk => g.1.block k (h.a.lt k hk).2, own_move h.k fun k hk => g.1.block k (h.k.lt k hk).2, own_move h.l fun k hk => g.1.block k (h.l.lt k hk).2⟩
theorem sr_start {w w1 : World} {sb n m c' : Nat} {p : Option Addr} {f : Nat → Int} (G1 : Grew w w1) (hsb : w.heap.size ≤ sb) (hmn : m ≤ n) (hm : m ≤ 4000) (hr : Reads w p n f) (hf : ∀ k, -9223372036854775808 ≤ f k ∧ f k ≤ 9223372036854775807)
    (k : Blk w1 sb 51 [.slice p m c', .int .i64 0]) : SR w w1 sb p m c' f :=
  ⟨G1, hsb, fun h => by obtain ⟨b, off, e, hc⟩ := hr (by omega); exact ⟨b, off, e, fun k hk => hc k (by omega)⟩, hm, hf, 0, Nat.zero_le _, k⟩
set_option maxRecDepth 100000 in
set_option maxHeartbeats 16000000 in
theorem scales_walk (p : Option Addr) (n c : Nat) (f : Nat → Int) (w : World) (hnc : n ≤ c) (hr : Reads w p n f) (hf : ∀ k, -9223372036854775808 ≤ f k ∧ f k ≤ 9223372036854775807) :
    Calls Try.prog 5 #[.slice p n c] w fun e w' => e = .returned (.bool true) ∧ Below w.heap.size w w' := by
  have KN := fun W => hide (New_any p n c W hnc (fun h => by obtain ⟨b, off, e, _⟩ := hr h; exact ⟨_, e⟩))
  have HR := hide hr
  have HF := hide hf
  clear hr hf
  go_enter Try.func5, Try.ntmps5
  go_wp2_with fail
  refine (KN _).out.mono ?_
  rintro e w1 ⟨sb, m, c', rfl, G1, hsb, ⟨hmn, hm4⟩, B1⟩
  have S1 := hide (sr_start G1 hsb hmn hm4 HR.out HF.out B1)
  have hs1 : Hid (sb < w1.heap.size) := B1.lt
  clear G1 hsb B1 KN
  have KF := hide (Font_any w w1 sb m c' p f S1.out)
  go_wp2_with fail
  refine KF.out.mono ?_
  rintro e w2 ⟨F, s, rfl, GF, OF, S2, _⟩
  have FA := hide OF
  have VF := hide GF.valid
  have S2 := hide S2
  clear KF S1 GF OF
  obtain ⟨fb, hfb⟩ : ∃ fb, fb = w2.heap.size := ⟨_, rfl⟩
  obtain ⟨u, a, d, g, df, na, av, nk, kv, nl, lv⟩ := F
  obtain ⟨pa, ca, pk, ck, pl, cl⟩ := s
  dsimp only [Fn.v]
  have B0 : Hid (Blk (w2.alloc (.cells [.int .i64 u, .int .i64 a, .int .i64 d, .int .i64 g, .int .i64 df, .slice pa na ca, .slice pk nk ck, .slice pl nl cl].toArray 26)) fb 26 [.int .i64 u, .int .i64 a, .int .i64 d, .int .i64 g, .int .i64 df, .slice pa na ca, .slice pk nk ck, .slice pl nl cl]) := Blk.new hfb
  have G3 : Hid (Grew w2 (w2.alloc (.cells [.int .i64 u, .int .i64 a, .int .i64 d, .int .i64 g, .int .i64 df, .slice pa na ca, .slice pk nk ck, .slice pl nl cl].toArray 26))) := (Grew.refl w2).alloc _
  go_wp2_with fail
  rw [← hfb]
  have hfb' := hide hfb
  clear hfb
  generalize (w2.alloc (.cells [.int .i64 u, .int .i64 a, .int .i64 d, .int .i64 g, .int .i64 df, .slice pa na ca, .slice pk nk ck, .slice pl nl cl].toArray 26)) = w3 at *
  have S3 := hide (S2.out.grew G3.out)
  have FA3 := hide (FA.out.grew G3.out)
  have hfs : Hid (fb ≠ sb) := by
    obtain ⟨t, _, k⟩ := S2.out.src
    have := k.lt
    have := hfb'.out
    show fb ≠ sb
    omega
  have KR := hide (Rune_any w w3 sb m c' p f S3.out)
  refine KR.out.mono ?_
  rintro e w4 ⟨r, rfl, hr, q, S4⟩
  have S4 := hide S4
  have B4 := hide (q.blk B0.out hfs.out)
  have FA4 : Hid (FAt w4 ⟨u, a, d, g, df, na, av, nk, kv, nl, lv⟩ ⟨pa, ca, pk, ck, pl, cl⟩) := (FA3.out.but q hs1.out).fat
  replace hr := hide hr
  clear S2 FA G3 S3 FA3 KR B0 q
  go_wp2
  go_loopg [6] 61 (fun gh vk wr => ∃ (k : Nat), vk = .int .i64 ((k : Int) + 1) ∧ k ≤ 60 ∧ 60 - k < gh ∧ Hid (Grew w4 wr))
  case atStart => exact ⟨0, by go_num, by omega, by omega, Grew.refl _⟩
  case round =>
    obtain ⟨wo, rfl⟩ : ∃ wo : World, wo = wr := ⟨_, rfl⟩
    obtain ⟨k, rfl, hk, hg, G⟩ := hrel
    by_cases hlt : k < 60
    · have hltz : (k : Int) + 1 ≤ 60 := by omega
      have wk1 : IntKind.i64.wrap (k : Int) = (k : Int) := wr (by omega) (by omega)
      have KA : ∀ W, Grew wo W → Hid (Calls Try.prog 14 #[.agg #[.int .i64 u, .int .i64 a, .int .i64 d, .int .i64 g, .int .i64 df, .slice pa na ca, .slice pk nk ck, .slice pl nl cl], .int .i64 ((k : Int) + 1), .int .i32 769] W fun e w' => e = .returned (.int .i64 0) ∧ Grew W w') := fun W gw => by
        have := Advance_any (Fn.mk u a d g df na av nk kv nl lv) (Sl.mk pa ca pk ck pl cl) ((k : Int) + 1) 769 W ((FA4.out.grew G.out).grew gw) (by decide)
        rw [adv_mark] at this
        exact hide this
      have KC : ∀ W, Grew wo W → Hid (Calls Try.prog 15 #[.agg #[.int .i64 u, .int .i64 a, .int .i64 d, .int .i64 g, .int .i64 df, .slice pa na ca, .slice pk nk ck, .slice pl nl cl], .int .i64 ((k : Int) + 1)] W fun e w' => e = .returned (.int .i64 (acF ⟨u, a, d, g, df, na, av, nk, kv, nl, lv⟩ ((k : Int) + 1))) ∧ Grew W w') := fun W gw => Ascent_any (Fn.mk u a d g df na av nk kv nl lv) (Sl.mk pa ca pk ck pl cl) ((k : Int) + 1) W ((FA4.out.grew G.out).grew gw)
      have KD : ∀ W, Grew wo W → Hid (Calls Try.prog 16 #[.agg #[.int .i64 u, .int .i64 a, .int .i64 d, .int .i64 g, .int .i64 df, .slice pa na ca, .slice pk nk ck, .slice pl nl cl], .int .i64 ((k : Int) + 1)] W fun e w' => e = .returned (.int .i64 (dcF ⟨u, a, d, g, df, na, av, nk, kv, nl, lv⟩ ((k : Int) + 1))) ∧ Grew W w') := fun W gw => Descent_any (Fn.mk u a d g df na av nk kv nl lv) (Sl.mk pa ca pk ck pl cl) ((k : Int) + 1) W ((FA4.out.grew G.out).grew gw)
      have KH : ∀ W, Grew wo W → Hid (Calls Try.prog 17 #[.agg #[.int .i64 u, .int .i64 a, .int .i64 d, .int .i64 g, .int .i64 df, .slice pa na ca, .slice pk nk ck, .slice pl nl cl], .int .i64 ((k : Int) + 1)] W fun e w' => e = .returned (.int .i64 (htF ⟨u, a, d, g, df, na, av, nk, kv, nl, lv⟩ ((k : Int) + 1))) ∧ Grew W w') := fun W gw => Height_any (Fn.mk u a d g df na av nk kv nl lv) (Sl.mk pa ca pk ck pl cl) ((k : Int) + 1) W ((FA4.out.grew G.out).grew gw)
      have KR : ∀ W, Grew wo W → Hid (Calls Try.prog 14 #[.agg #[.int .i64 u, .int .i64 a, .int .i64 d, .int .i64 g, .int .i64 df, .slice pa na ca, .slice pk nk ck, .slice pl nl cl], .int .i64 ((k : Int) + 1), .int .i32 r] W fun e w' => e = .returned (.int .i64 (advF ⟨u, a, d, g, df, na, av, nk, kv, nl, lv⟩ ((k : Int) + 1) r)) ∧ Grew W w') := fun W gw => Advance_any (Fn.mk u a d g df na av nk kv nl lv) (Sl.mk pa ca pk ck pl cl) ((k : Int) + 1) r W ((FA4.out.grew G.out).grew gw) hr.out
      have KQ : ∀ W, Grew wo W → Hid (Calls Try.prog 14 #[.agg #[.int .i64 u, .int .i64 a, .int .i64 d, .int .i64 g, .int .i64 df, .slice pa na ca, .slice pk nk ck, .slice pl nl cl], .int .i64 (k : Int), .int .i32 r] W fun e w' => e = .returned (.int .i64 (advF ⟨u, a, d, g, df, na, av, nk, kv, nl, lv⟩ (k : Int) r)) ∧ Grew W w') := fun W gw => Advance_any (Fn.mk u a d g df na av nk kv nl lv) (Sl.mk pa ca pk ck pl cl) (k : Int) r W ((FA4.out.grew G.out).grew gw) hr.out
      have KE : ∀ W, Grew wo W → Hid (Calls Try.prog 16 #[.agg #[.int .i64 u, .int .i64 a, .int .i64 d, .int .i64 g, .int .i64 df, .slice pa na ca, .slice pk nk ck, .slice pl nl cl], .int .i64 (k : Int)] W fun e w' => e = .returned (.int .i64 (dcF ⟨u, a, d, g, df, na, av, nk, kv, nl, lv⟩ (k : Int))) ∧ Grew W w') := fun W gw => Descent_any (Fn.mk u a d g df na av nk kv nl lv) (Sl.mk pa ca pk ck pl cl) (k : Int) W ((FA4.out.grew G.out).grew gw)
      obtain ⟨f1, f2, f3, f4, f5, f6⟩ := line_one VF.out (size := (k : Int) + 1) (by omega) (by omega)
      have m1 : 0 < k → dcF ⟨u, a, d, g, df, na, av, nk, kv, nl, lv⟩ (k : Int) ≤ dcF ⟨u, a, d, g, df, na, av, nk, kv, nl, lv⟩ ((k : Int) + 1) := fun h => dc_mono VF.out (by omega) (by omega) (by omega)
      have m2 : 0 < k → advF ⟨u, a, d, g, df, na, av, nk, kv, nl, lv⟩ (k : Int) r ≤ advF ⟨u, a, d, g, df, na, av, nk, kv, nl, lv⟩ ((k : Int) + 1) r := fun h => adv_mono VF.out (by omega) (by omega) (by omega)
      generalize acF ⟨u, a, d, g, df, na, av, nk, kv, nl, lv⟩ ((k : Int) + 1) = ya at *
      generalize dcF ⟨u, a, d, g, df, na, av, nk, kv, nl, lv⟩ ((k : Int) + 1) = yd at *
      generalize htF ⟨u, a, d, g, df, na, av, nk, kv, nl, lv⟩ ((k : Int) + 1) = yh at *
      generalize advF ⟨u, a, d, g, df, na, av, nk, kv, nl, lv⟩ ((k : Int) + 1) r = yr at *
      generalize dcF ⟨u, a, d, g, df, na, av, nk, kv, nl, lv⟩ (k : Int) = ze at *
      generalize advF ⟨u, a, d, g, df, na, av, nk, kv, nl, lv⟩ (k : Int) r = zr at *
      have wad : IntKind.i64.wrap (ya + yd) = ya + yd := wr (by omega) (by omega)
      have n1 : ¬ ya + yd < 1 := by omega
      have n2 : ¬ yh < ya + yd := by omega
      have dn1 : decide (ya + yd < 1) = false := by simp; omega
      have dn2 : decide (yh < ya + yd) = false := by simp; omega
      have c7 := hide (B4.out.grew G.out)
      have GW := hide G.out
      have GR : Hid (∀ q os, Grew wo (grow (wo.drewN q) os)) := fun q os => ((Grew.refl wo).drewN q).grow os
      have KA' := fun q os => KA _ (GR.out q os)
      have KC' := fun q os => KC _ (GR.out q os)
      have KD' := fun q os => KD _ (GR.out q os)
      have KH' := fun q os => KH _ (GR.out q os)
      have g0 := fun q os => (Blk.grow c7.out q os).cell 0 rfl
      have g1 := fun q os => (Blk.grow c7.out q os).cell 1 rfl
      have g2 := fun q os => (Blk.grow c7.out q os).cell 2 rfl
      have g3 := fun q os => (Blk.grow c7.out q os).cell 3 rfl
      have g4 := fun q os => (Blk.grow c7.out q os).cell 4 rfl
      have g5 := fun q os => (Blk.grow c7.out q os).cell 5 rfl
      have g6 := fun q os => (Blk.grow c7.out q os).cell 6 rfl
      have g7 := fun q os => (Blk.grow c7.out q os).cell 7 rfl
      have KD2 := KD
      clear f1 f2 f3 f4 f5 f6 G KA KC KD KH
      go_wp2
      refine wp_region_calm (by kernel_rfl) (by kernel_rfl) ?_
      repeat (first | (refine lex_skip rfl (by rfl) ?_; go_simp) | (refine lex_calm rfl (by rfl) (fun K hK => ?_); go_simp; first | (refine hK _ ?_; clear hK K) | (apply Exists.intro; refine ⟨fun _ _ => ?_, hK _ ?_⟩; (first | (with_reducible exact (KA' _ _).out) | (with_reducible exact (KC' _ _).out) | (with_reducible exact (KD' _ _).out) | (with_reducible exact (KH' _ _).out)); clear hK K)))
      refine lex_nil ?_
      intro w5 G5
      have GW5 := hide (GW.out.trans G5)
      have c8 := hide (c7.out.grew G5)
      have GR5 : Hid (∀ q os, Grew wo (grow (w5.drewN q) os)) := fun q os => G5.trans (((Grew.refl w5).drewN q).grow os)
      clear G5 g0 g1 g2 g3 g4 g5 g6 g7 KA' KC' KD' KH' c7 n1 n2 dn1 dn2 wad GR
      by_cases hk0 : k = 0
      · have hk1 : ¬ (1 : Int) < (k : Int) + 1 := by omega
        have dk1 : decide ((1 : Int) < (k : Int) + 1) = false := decide_eq_false hk1
        have hk2 : ¬ (0 : Int) < (k : Int) := by omega
        have dk2 : decide ((0 : Int) < (k : Int)) = false := decide_eq_false hk2
        have hk3 : ¬ 0 < k := by omega
        have dk3 : decide (0 < k) = false := decide_eq_false hk3
        replace hk0 := hide hk0
        clear KR KQ KE KD2 m1 m2 c8 GR5
        go_wp2
        go_quiet (fail)
        have NX := hide (GW5.out.drewN nq)
        go_wp2
        go_roundg (60 - k)
        case measure => omega
        case rel => exact ⟨k + 1, by go_num, by omega, by omega, NX⟩
      · have hk1 : (1 : Int) < (k : Int) + 1 := by omega
        have dk1 : decide ((1 : Int) < (k : Int) + 1) = true := decide_eq_true hk1
        have hk2 : (0 : Int) < (k : Int) := by omega
        have dk2 : decide ((0 : Int) < (k : Int)) = true := decide_eq_true hk2
        have hk3 : 0 < k := by omega
        have dk3 : decide (0 < k) = true := decide_eq_true hk3
        have m1 := m1 (by omega)
        have m2 := m2 (by omega)
        have p1 : ¬ yr < zr := by omega
        have p2 : ¬ yd < ze := by omega
        have dp1 : decide (yr < zr) = false := by simp; omega
        have dp2 : decide (yd < ze) = false := by simp; omega
        have KR' := fun q os => KR _ (GR5.out q os)
        have KQ' := fun q os => KQ _ (GR5.out q os)
        have KE' := fun q os => KE _ (GR5.out q os)
        have KD' := fun q os => KD2 _ (GR5.out q os)
        have g0 := fun q os => (Blk.grow c8.out q os).cell 0 rfl
        have g1 := fun q os => (Blk.grow c8.out q os).cell 1 rfl
        have g2 := fun q os => (Blk.grow c8.out q os).cell 2 rfl
        have g3 := fun q os => (Blk.grow c8.out q os).cell 3 rfl
        have g4 := fun q os => (Blk.grow c8.out q os).cell 4 rfl
        have g5 := fun q os => (Blk.grow c8.out q os).cell 5 rfl
        have g6 := fun q os => (Blk.grow c8.out q os).cell 6 rfl
        have g7 := fun q os => (Blk.grow c8.out q os).cell 7 rfl
        clear KR KQ KE KD2
        go_wp2
        refine wp_region_calm (by kernel_rfl) (by kernel_rfl) ?_
        repeat (first | (refine lex_skip rfl (by rfl) ?_; go_simp) | (refine lex_calm rfl (by rfl) (fun K hK => ?_); go_simp; first | (refine hK _ ?_; clear hK K) | (apply Exists.intro; refine ⟨fun _ _ => ?_, hK _ ?_⟩; (first | (with_reducible exact (KR' _ _).out) | (with_reducible exact (KQ' _ _).out) | (with_reducible exact (KE' _ _).out) | (with_reducible exact (KD' _ _).out)); clear hK K)))
        refine lex_nil ?_
        intro w6 G6
        have NX := hide (GW5.out.trans G6)
        clear G6 g0 g1 g2 g3 g4 g5 g6 g7 KR' KQ' KE' KD'
        go_wp2
        go_roundg (60 - k)
        case measure => omega
        case rel => exact ⟨k + 1, by go_num, by omega, by omega, NX⟩
    · have hltz : ¬ (k : Int) + 1 ≤ 60 := by omega
      go_wp2_with fail
      refine (awake_any _).mono ?_
      rintro e w7 ⟨rfl, q⟩
      have GF := hide ((S4.out.g.trans G.out).trans q)
      clear q
      go_wp2
      go_ret
      exact ⟨rfl, GF.out.1⟩
end Go.Proofs.Ytfiaongnogiegaa
