/- What the reference Advance returns, for every font whose ligatures are of runes. -/
import Derived.Test.YtfiaongnogiegaaFoRK
namespace Go.Proofs.Ytfiaongnogiegaa
open Go.RowKit Go.Sort
set_option linter.unusedVariables false
set_option linter.unusedSimpArgs false

set_option maxRecDepth 100000 in
set_option maxHeartbeats 8000000 in
theorem rAdvance_any (F : Fn) (s : Sl) (size r : Int) (w : World) (H : FAt w F s) (hL : LR F) (hr : -2147483648 ≤ r ∧ r ≤ 2147483647) :
    Calls Try.prog 21 #[F.v s, .int .i64 size, .int .i32 r] w fun e w' => e = .returned (.int .i64 (advF F size r)) ∧ Grew w w' := by
  have KU := fun W => fun (gw : Grew w W) => hide (rgood_any F s size W (H.grew gw) hL)
  have KB := fun W => hide (rBreak_any r W hr)
  have KS : useB F size = true → Hid (∀ x W, 0 ≤ x ∧ x ≤ 4096 → Calls Try.prog 44 #[F.v s, .int .i64 size, .int .i64 x] W fun e w' => e = .returned (.int .i64 (scF F size x)) ∧ Grew W w') := fun h x W hx => by
    obtain ⟨ok, hs⟩ := use_bd h
    exact rScaled_any F s size x W ok.u hs (by omega)
  have KO : useB F size = true → Hid (F.na ≤ 100 ∧ (0 ≤ F.df ∧ F.df ≤ 4096) ∧ ∀ i, i < F.na → 0 ≤ (F.av i).w ∧ (F.av i).w ≤ 4096) := fun h => ⟨(use_bd h).1.na, (use_bd h).1.df, (use_bd h).1.av⟩
  obtain ⟨R, hR⟩ : ∃ R, R = advF F size r := ⟨_, rfl⟩
  rw [← hR]
  unfold advF advB at hR
  replace hR := hide hR
  generalize (cls r).b = x at *
  clear hr
  cases hv : useB F size
  · rw [hv] at hR KU
    clear KS KO KB H hL hv
    obtain ⟨u, a, d, g, df, na, av, nk, kv, nl, lv⟩ := F
    obtain ⟨pa, ca, pk, ck, pl, cl⟩ := s
    dsimp only [Fn.v] at *
    obtain ⟨b0, hb0⟩ : ∃ b0, b0 = w.heap.size := ⟨_, rfl⟩
    have G0 : Hid (∀ o, Grew w (w.alloc o)) := fun o => (Grew.refl w).alloc o
    go_enter Try.func21, Try.ntmps21
    go_wp2_with fail
    have B0 : Hid (Blk (w.alloc (.cells [.int .i64 u, .int .i64 a, .int .i64 d, .int .i64 g, .int .i64 df, .slice pa na ca, .slice pk nk ck, .slice pl nl cl].toArray 26)) b0 26 [.int .i64 u, .int .i64 a, .int .i64 d, .int .i64 g, .int .i64 df, .slice pa na ca, .slice pk nk ck, .slice pl nl cl]) := Blk.new hb0
    rw [← hb0]
    have G1 := hide (G0.out (.cells [.int .i64 u, .int .i64 a, .int .i64 d, .int .i64 g, .int .i64 df, .slice pa na ca, .slice pk nk ck, .slice pl nl cl].toArray 26))
    have hw : Hid (w.heap.size ≤ b0) := Nat.le_of_eq hb0.symm
    clear G0 hb0
    generalize (w.alloc (.cells [.int .i64 u, .int .i64 a, .int .i64 d, .int .i64 g, .int .i64 df, .slice pa na ca, .slice pk nk ck, .slice pl nl cl].toArray 26)) = w1 at *
    refine (KU _ G1.out).out.mono ?_
    rintro e w3 ⟨rfl, G3⟩
    have GT := hide (G1.out.trans G3)
    clear G3 KU
    go_wp2
    go_ret
    exact ⟨ret_int (by rw [hR.out]; rfl), GT.out⟩
  · rw [hv] at hR KU
    have KS := KS hv
    have KO := KO hv
    have HA : Hid (SRow w s.pa F.na 3 (adC F.av)) := H.av
    clear H hL hv
    obtain ⟨u, a, d, g, df, na, av, nk, kv, nl, lv⟩ := F
    obtain ⟨pa, ca, pk, ck, pl, cl⟩ := s
    dsimp only [Fn.v] at *
    obtain ⟨b0, hb0⟩ : ∃ b0, b0 = w.heap.size := ⟨_, rfl⟩
    have G0 : Hid (∀ o, Grew w (w.alloc o)) := fun o => (Grew.refl w).alloc o
    have hR : Hid (R = if (true && !((x == 4) || (x == 5) || (x == 3) || (x == 1) || (x == 2))) = true then scF ⟨u, a, d, g, df, na, av, nk, kv, nl, lv⟩ size (wdF av df r 0 na) else 0) := hR.out
    have hna : na ≤ 100 := KO.out.1
    have HA : Hid (SRow w pa na 3 (adC av)) := HA.out
    go_enter Try.func21, Try.ntmps21
    go_wp2_with fail
    have B0 : Hid (Blk (w.alloc (.cells [.int .i64 u, .int .i64 a, .int .i64 d, .int .i64 g, .int .i64 df, .slice pa na ca, .slice pk nk ck, .slice pl nl cl].toArray 26)) b0 26 [.int .i64 u, .int .i64 a, .int .i64 d, .int .i64 g, .int .i64 df, .slice pa na ca, .slice pk nk ck, .slice pl nl cl]) := Blk.new hb0
    rw [← hb0]
    have G1 := hide (G0.out (.cells [.int .i64 u, .int .i64 a, .int .i64 d, .int .i64 g, .int .i64 df, .slice pa na ca, .slice pk nk ck, .slice pl nl cl].toArray 26))
    have hw : Hid (w.heap.size ≤ b0) := Nat.le_of_eq hb0.symm
    clear G0 hb0
    generalize (w.alloc (.cells [.int .i64 u, .int .i64 a, .int .i64 d, .int .i64 g, .int .i64 df, .slice pa na ca, .slice pk nk ck, .slice pl nl cl].toArray 26)) = w1 at *
    refine (KU _ G1.out).out.mono ?_
    rintro e w2 ⟨rfl, G3⟩
    have B2 := hide (B0.out.grew G3)
    have GT2 := hide (G1.out.trans G3)
    clear G3 KU B0 G1
    go_wp2_with fail
    refine (KB _).out.mono ?_
    rintro e w3 ⟨rfl, G3⟩
    have B3 := hide (B2.out.grew G3)
    have GT := hide (GT2.out.trans G3)
    clear G3 KB B2 GT2
    by_cases h4 : x = 4
    · have E : Hid (R = 0) := by have := hR.out; rw [h4] at this; exact this
      subst h4
      go_wp2
      go_ret
      exact ⟨ret_int (by rw [E.out]), GT.out⟩
    have e4 : (x == 4) = false := by simpa using h4
    by_cases h5 : x = 5
    · have E : Hid (R = 0) := by have := hR.out; rw [h5] at this; exact this
      subst h5
      go_wp2
      go_ret
      exact ⟨ret_int (by rw [E.out]), GT.out⟩
    have e5 : (x == 5) = false := by simpa using h5
    by_cases h3 : x = 3
    · have E : Hid (R = 0) := by have := hR.out; rw [h3] at this; exact this
      subst h3
      go_wp2
      go_ret
      exact ⟨ret_int (by rw [E.out]), GT.out⟩
    have e3 : (x == 3) = false := by simpa using h3
    by_cases h1 : x = 1
    · have E : Hid (R = 0) := by have := hR.out; rw [h1] at this; exact this
      subst h1
      go_wp2
      go_ret
      exact ⟨ret_int (by rw [E.out]), GT.out⟩
    have e1 : (x == 1) = false := by simpa using h1
    by_cases h2 : x = 2
    · have E : Hid (R = 0) := by have := hR.out; rw [h2] at this; exact this
      subst h2
      go_wp2
      go_ret
      exact ⟨ret_int (by rw [E.out]), GT.out⟩
    have e2 : (x == 2) = false := by simpa using h2
    have hR : Hid (R = scF ⟨u, a, d, g, df, na, av, nk, kv, nl, lv⟩ size (wdF av df r 0 na)) := by have := hR.out; rw [e4, e5, e3, e1, e2] at this; exact this
    go_wp2
    have S0 : Hid (wdF av df r 0 (na - 0) = wdF av df r 0 na) := rfl
    go_loopg [8] (na + 1) (fun gh vk wr => ∃ (k : Nat), vk = .int .i64 (k : Int) ∧ k ≤ na ∧ na - k < gh ∧ Hid (Grew w3 wr) ∧ Hid (wdF av df r k (na - k) = wdF av df r 0 na))
    case atStart => exact ⟨0, by go_num, by omega, by omega, Grew.refl _, S0⟩
    case round =>
      clear S0
      obtain ⟨wo, rfl⟩ : ∃ wo : World, wo = wr := ⟨_, rfl⟩
      obtain ⟨k, rfl, hk, hg, G, S⟩ := hrel
      have BB := hide (B3.out.grew G.out)
      have c5 := BB.out.cell 5 rfl
      have NX : Hid (Grew w3 wo) := G.out
      by_cases hlt : k < na
      · have hltz : (k : Int) < (na : Int) := by omega
        obtain ⟨b, off, rfl, hb, hc⟩ := (HA.out.grew (GT.out.trans G.out)) (by omega)
        have c0 : wo.cell? ⟨b, off + k * 3, none⟩ = some (.int .i32 (av k).f) := hc k hlt 0 (by decide)
        have c1 : wo.cell? ⟨b, off + k * 3 + 1, none⟩ = some (.int .i32 (av k).t) := hc k hlt 1 (by decide)
        have c2 : wo.cell? ⟨b, off + k * 3 + 2, none⟩ = some (.int .i64 (av k).w) := hc k hlt 2 (by decide)
        have S' : Hid ((if (av k).f ≤ r ∧ r ≤ (av k).t then (av k).w else wdF av df r (k + 1) (na - (k + 1))) = wdF av df r 0 na) := by
          have := S.out
          rwa [show na - k = na - (k + 1) + 1 by omega, wdF] at this
        have hd := hide (KO.out.2.2 k hlt)
        have HB := hide hb
        clear hc S hb KO
        generalize (av k).f = x0 at *
        generalize (av k).t = x1 at *
        generalize (av k).w = x2 at *
        by_cases g1 : x0 ≤ r
        · by_cases g2 : r ≤ x1
          · have S2 : Hid (x2 = wdF av df r 0 na) := by have := S'.out; rwa [if_pos ⟨g1, g2⟩] at this
            have GR : Hid (∀ q os, Grew wo (grow (wo.drewN q) os)) := fun q os => ((Grew.refl wo).drewN q).grow os
            have d2 := fun q os => ((GR.out q os).1.cell (p := ⟨b, off + k * 3 + 2, none⟩) HB.out).trans c2
            have g0 := fun m os => (Blk.grow BB.out m os).cell 0 rfl
            have g1 := fun m os => (Blk.grow BB.out m os).cell 1 rfl
            have g2 := fun m os => (Blk.grow BB.out m os).cell 2 rfl
            have g3 := fun m os => (Blk.grow BB.out m os).cell 3 rfl
            have g4 := fun m os => (Blk.grow BB.out m os).cell 4 rfl
            have g5 := fun m os => (Blk.grow BB.out m os).cell 5 rfl
            have g6 := fun m os => (Blk.grow BB.out m os).cell 6 rfl
            have g7 := fun m os => (Blk.grow BB.out m os).cell 7 rfl
            have KS' : ∀ W, Hid (Calls Try.prog 44 #[.agg #[.int .i64 u, .int .i64 a, .int .i64 d, .int .i64 g, .int .i64 df, .slice (some ⟨b, off, none⟩) na ca, .slice pk nk ck, .slice pl nl cl], .int .i64 size, .int .i64 x2] W fun e w' => e = .returned (.int .i64 (scF ⟨u, a, d, g, df, na, av, nk, kv, nl, lv⟩ size x2)) ∧ Grew W w') := fun W => KS.out x2 W hd.out
            have FR : Hid (R = scF ⟨u, a, d, g, df, na, av, nk, kv, nl, lv⟩ size x2) := by rw [hR.out, ← S2.out]; exact hide rfl
            generalize scF ⟨u, a, d, g, df, na, av, nk, kv, nl, lv⟩ size x2 = z at *
            clear S' S2 KS hR
            go_wp2
            refine wp_region_calm (by kernel_rfl) (by kernel_rfl) ?_
            repeat (first | (refine lex_skip rfl (by rfl) ?_) | (refine lex_calm rfl (by rfl) (fun K hK => ?_); go_simp; first | (refine hK _ ?_; clear hK K) | (apply Exists.intro; refine ⟨fun _ _ => ?_, hK _ ?_⟩; (with_reducible exact (KS' _).out); clear hK K)))
            refine lex_nil ?_
            intro w5 G5
            have GF := hide (GT.out.trans (NX.out.trans G5))
            clear G5 KS' d2 g0 g1 g2 g3 g4 g5 g6 g7
            go_wp2
            go_ret
            exact ⟨ret_int (by rw [FR.out]), GF.out⟩
          · have S2 := hide (S'.out)
            rw [if_neg (fun h => g2 h.2)] at S2
            clear S'
            go_wp2
            go_roundg (na - k)
            case measure => omega
            case rel => exact ⟨k + 1, by go_num, by omega, by omega, NX.out, S2⟩
        · have S2 := hide (S'.out)
          rw [if_neg (fun h => g1 h.1)] at S2
          clear S'
          go_wp2
          go_roundg (na - k)
          case measure => omega
          case rel => exact ⟨k + 1, by go_num, by omega, by omega, NX.out, S2⟩
      · have hltz : ¬ (k : Int) < (na : Int) := by omega
        have S2 : Hid (df = wdF av df r 0 na) := by
          have := S.out
          rwa [show na - k = 0 by omega, wdF] at this
        have KS' := fun W => hide (KS.out df W KO.out.2.1)
        have FR : Hid (R = scF ⟨u, a, d, g, df, na, av, nk, kv, nl, lv⟩ size df) := by rw [hR.out, ← S2.out]; exact hide rfl
        generalize scF ⟨u, a, d, g, df, na, av, nk, kv, nl, lv⟩ size df = z at *
        have m0 := (BB.out).cell 0 rfl
        have m1 := (BB.out).cell 1 rfl
        have m2 := (BB.out).cell 2 rfl
        have m3 := (BB.out).cell 3 rfl
        have m4 := (BB.out).cell 4 rfl
        have m5 := (BB.out).cell 5 rfl
        have m6 := (BB.out).cell 6 rfl
        have m7 := (BB.out).cell 7 rfl
        clear S S2 hR KS KO
        go_wp2_with fail
        refine (KS' _).out.mono ?_
        rintro e w5 ⟨rfl, G5⟩
        have GF := hide (GT.out.trans (NX.out.trans G5))
        clear G5 KS'
        go_wp2
        go_ret
        exact ⟨ret_int (by rw [FR.out]), GF.out⟩
end Go.Proofs.Ytfiaongnogiegaa
