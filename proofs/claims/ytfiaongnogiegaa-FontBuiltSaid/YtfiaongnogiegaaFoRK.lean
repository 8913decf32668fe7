/- What the references Kern and Advance return, for every font whose ligatures are of runes. -/
import Derived.Test.YtfiaongnogiegaaFoR
import Derived.Test.YtfiaongnogiegaaFoQ
namespace Go.Proofs.Ytfiaongnogiegaa
open Go.RowKit Go.Sort
set_option linter.unusedVariables false
set_option linter.unusedSimpArgs false
set_option maxRecDepth 100000 in
set_option maxHeartbeats 8000000 in
theorem rKern_any (F : Fn) (s : Sl) (size a1 b1 : Int) (w : World) (H : FAt w F s) (hL : LR F) :
    Calls Try.prog 23 #[F.v s, .int .i64 size, .int .i32 a1, .int .i32 b1] w fun e w' => e = .returned (.int .i64 (krF F size a1 b1)) ∧ Grew w w' := by
  have KU := fun W => fun (gw : Grew w W) => hide (rgood_any F s size W (H.grew gw) hL)
  have KS : useB F size = true → Hid (∀ x W, -1000 ≤ x ∧ x ≤ 1000 → Calls Try.prog 44 #[F.v s, .int .i64 size, .int .i64 x] W fun e w' => e = .returned (.int .i64 (scF F size x)) ∧ Grew W w') := fun h x W hx => by
    obtain ⟨ok, hs⟩ := use_bd h
    exact rScaled_any F s size x W ok.u hs (by omega)
  have KO : useB F size = true → Hid (F.nk ≤ 100 ∧ ∀ i, i < F.nk → -1000 ≤ (F.kv i).d ∧ (F.kv i).d ≤ 1000) := fun h => ⟨(use_bd h).1.nk, (use_bd h).1.kv⟩
  obtain ⟨R, hR⟩ : ∃ R, R = krF F size a1 b1 := ⟨_, rfl⟩
  rw [← hR]
  unfold krF at hR
  replace hR := hide hR
  cases hv : useB F size
  · rw [hv] at hR KU
    clear KS KO H hL hv
    obtain ⟨u, a, d, g, df, na, av, nk, kv, nl, lv⟩ := F
    obtain ⟨pa, ca, pk, ck, pl, cl⟩ := s
    dsimp only [Fn.v] at *
    obtain ⟨b0, hb0⟩ : ∃ b0, b0 = w.heap.size := ⟨_, rfl⟩
    have G0 : Hid (∀ o, Grew w (w.alloc o)) := fun o => (Grew.refl w).alloc o
    go_enter Try.func23, Try.ntmps23
    go_wp2_with fail
    have B0 : Hid (Blk (w.alloc (.cells [.int .i64 u, .int .i64 a, .int .i64 d, .int .i64 g, .int .i64 df, .slice pa na ca, .slice pk nk ck, .slice pl nl cl].toArray 26)) b0 26 [.int .i64 u, .int .i64 a, .int .i64 d, .int .i64 g, .int .i64 df, .slice pa na ca, .slice pk nk ck, .slice pl nl cl]) := Blk.new hb0
    rw [← hb0]
    have G1 := hide (G0.out (.cells [.int .i64 u, .int .i64 a, .int .i64 d, .int .i64 g, .int .i64 df, .slice pa na ca, .slice pk nk ck, .slice pl nl cl].toArray 26))
    have hw : Hid (w.heap.size ≤ b0) := Nat.le_of_eq hb0.symm
    clear G0 hb0
    generalize (w.alloc (.cells [.int .i64 u, .int .i64 a, .int .i64 d, .int .i64 g, .int .i64 df, .slice pa na ca, .slice pk nk ck, .slice pl nl cl].toArray 26)) = w1 at *
    refine (KU _ G1.out).out.mono ?_
    rintro e w3 ⟨rfl, G3⟩
    have GT := hide (G1.out.trans G3)
    clear G3 KU
    go_wp2
    go_ret
    exact ⟨ret_int (by rw [hR.out]; rfl), GT.out⟩
  · rw [hv] at hR KU
    have KS := KS hv
    have KO := KO hv
    have HK : Hid (SRow w s.pk F.nk 3 (knC F.kv)) := H.kv
    clear H hL hv
    obtain ⟨u, a, d, g, df, na, av, nk, kv, nl, lv⟩ := F
    obtain ⟨pa, ca, pk, ck, pl, cl⟩ := s
    dsimp only [Fn.v] at *
    obtain ⟨b0, hb0⟩ : ∃ b0, b0 = w.heap.size := ⟨_, rfl⟩
    have G0 : Hid (∀ o, Grew w (w.alloc o)) := fun o => (Grew.refl w).alloc o
    have SC : Hid (∀ x, scF ⟨u, a, d, g, df, na, av, nk, kv, nl, lv⟩ size x = scF ⟨u, a, d, g, df, na, av, nk, kv, nl, lv⟩ size x) := fun _ => rfl
    have hR : Hid (R = krV ⟨u, a, d, g, df, na, av, nk, kv, nl, lv⟩ size (kdF kv a1 b1 0 nk)) := hR.out
    have hnk : nk ≤ 100 := KO.out.1
    have HK : Hid (SRow w pk nk 3 (knC kv)) := HK.out
    go_enter Try.func23, Try.ntmps23
    go_wp2_with fail
    have B0 : Hid (Blk (w.alloc (.cells [.int .i64 u, .int .i64 a, .int .i64 d, .int .i64 g, .int .i64 df, .slice pa na ca, .slice pk nk ck, .slice pl nl cl].toArray 26)) b0 26 [.int .i64 u, .int .i64 a, .int .i64 d, .int .i64 g, .int .i64 df, .slice pa na ca, .slice pk nk ck, .slice pl nl cl]) := Blk.new hb0
    rw [← hb0]
    have G1 := hide (G0.out (.cells [.int .i64 u, .int .i64 a, .int .i64 d, .int .i64 g, .int .i64 df, .slice pa na ca, .slice pk nk ck, .slice pl nl cl].toArray 26))
    have hw : Hid (w.heap.size ≤ b0) := Nat.le_of_eq hb0.symm
    clear G0 hb0
    generalize (w.alloc (.cells [.int .i64 u, .int .i64 a, .int .i64 d, .int .i64 g, .int .i64 df, .slice pa na ca, .slice pk nk ck, .slice pl nl cl].toArray 26)) = w1 at *
    refine (KU _ G1.out).out.mono ?_
    rintro e w3 ⟨rfl, G3⟩
    have B3 := hide (B0.out.grew G3)
    have GT := hide (G1.out.trans G3)
    clear G3 KU B0 G1
    go_wp2
    have S0 : Hid (kdF kv a1 b1 0 (nk - 0) = kdF kv a1 b1 0 nk) := rfl
    go_loopg [9] (nk + 1) (fun gh vk wr => ∃ (k : Nat), vk = .int .i64 (k : Int) ∧ k ≤ nk ∧ nk - k < gh ∧ Hid (Grew w3 wr) ∧ Hid (kdF kv a1 b1 k (nk - k) = kdF kv a1 b1 0 nk))
    case atStart => exact ⟨0, by go_num, by omega, by omega, Grew.refl _, S0⟩
    case round =>
      clear S0
      obtain ⟨wo, rfl⟩ : ∃ wo : World, wo = wr := ⟨_, rfl⟩
      obtain ⟨k, rfl, hk, hg, G, S⟩ := hrel
      have B6 := hide (B3.out.grew G.out)
      have c6 := B6.out.cell 6 rfl
      by_cases hlt : k < nk
      · have hltz : (k : Int) < (nk : Int) := by omega
        obtain ⟨b, off, rfl, hb, hc⟩ := (HK.out.grew (GT.out.trans G.out)) (by omega)
        have c0 : wo.cell? ⟨b, off + k * 3, none⟩ = some (.int .i32 (kv k).a) := hc k hlt 0 (by decide)
        have c1 : wo.cell? ⟨b, off + k * 3 + 1, none⟩ = some (.int .i32 (kv k).b) := hc k hlt 1 (by decide)
        have c2 : wo.cell? ⟨b, off + k * 3 + 2, none⟩ = some (.int .i64 (kv k).d) := hc k hlt 2 (by decide)
        have S' : Hid ((if (kv k).a = a1 ∧ (kv k).b = b1 then some (kv k).d else kdF kv a1 b1 (k + 1) (nk - (k + 1))) = kdF kv a1 b1 0 nk) := by
          have := S.out
          rwa [show nk - k = nk - (k + 1) + 1 by omega, kdF] at this
        have NX : Hid (Grew w3 wo) := G.out
        have hd := hide (KO.out.2 k hlt)
        have BB := hide (B3.out.grew G.out)
        have HB := hide hb
        clear hc S hb KO
        generalize (kv k).a = x0 at *
        generalize (kv k).b = x1 at *
        generalize (kv k).d = x2 at *
        by_cases h1 : x0 = a1
        · by_cases h2 : x1 = b1
          · have e1 : (x0 == a1) = true := by simpa using h1
            have e2 : (x1 == b1) = true := by simpa using h2
            have S2 : Hid (kdF kv a1 b1 0 nk = some x2) := by have := S'.out; rw [if_pos ⟨h1, h2⟩] at this; exact this.symm
            replace h1 := hide h1
            replace h2 := hide h2
            have hcc : Hid (∀ z q os, wo.cell? z = (grow (wo.drewN q) os).cell? z → True) := fun _ _ _ _ => trivial
            have GR : Hid (∀ q os, Grew wo (grow (wo.drewN q) os)) := fun q os => ((Grew.refl wo).drewN q).grow os
            have d2 := fun q os => ((GR.out q os).1.cell (p := ⟨b, off + k * 3 + 2, none⟩) HB.out).trans c2
            have g0 := fun m os => (Blk.grow BB.out m os).cell 0 rfl
            have g1 := fun m os => (Blk.grow BB.out m os).cell 1 rfl
            have g2 := fun m os => (Blk.grow BB.out m os).cell 2 rfl
            have g3 := fun m os => (Blk.grow BB.out m os).cell 3 rfl
            have g4 := fun m os => (Blk.grow BB.out m os).cell 4 rfl
            have g5 := fun m os => (Blk.grow BB.out m os).cell 5 rfl
            have g6 := fun m os => (Blk.grow BB.out m os).cell 6 rfl
            have g7 := fun m os => (Blk.grow BB.out m os).cell 7 rfl
            have KS' : ∀ W, Hid (Calls Try.prog 44 #[.agg #[.int .i64 u, .int .i64 a, .int .i64 d, .int .i64 g, .int .i64 df, .slice pa na ca, .slice (some ⟨b, off, none⟩) nk ck, .slice pl nl cl], .int .i64 size, .int .i64 x2] W fun e w' => e = .returned (.int .i64 (scF ⟨u, a, d, g, df, na, av, nk, kv, nl, lv⟩ size x2)) ∧ Grew W w') := fun W => KS.out x2 W hd.out
            have HZ : Hid (krV ⟨u, a, d, g, df, na, av, nk, kv, nl, lv⟩ size (some x2) = scF ⟨u, a, d, g, df, na, av, nk, kv, nl, lv⟩ size x2) := rfl
            generalize scF ⟨u, a, d, g, df, na, av, nk, kv, nl, lv⟩ size x2 = z at *
            have FR : Hid (R = z) := by
              have h3 := HZ.out
              have h4 := hR.out
              rw [S2.out] at h4
              exact hide (h4.trans h3)
            clear S' KS hcc
            go_wp2
            refine wp_region_calm (by kernel_rfl) (by kernel_rfl) ?_
            repeat (first | (refine lex_skip rfl (by rfl) ?_) | (refine lex_calm rfl (by rfl) (fun K hK => ?_); go_simp; first | (refine hK _ ?_; clear hK K) | (apply Exists.intro; refine ⟨fun _ _ => ?_, hK _ ?_⟩; (with_reducible exact (KS' _).out); clear hK K)))
            refine lex_nil ?_
            intro w5 G5
            have GF := hide (GT.out.trans (NX.out.trans G5))
            clear G5 KS' d2 g0 g1 g2 g3 g4 g5 g6 g7
            go_wp2
            go_ret
            exact ⟨ret_int (by rw [FR.out]), GF.out⟩
          · have e2 : (x1 == b1) = false := by simpa using h2
            have S2 := hide (S'.out)
            rw [if_neg (fun h => h2 h.2)] at S2
            clear S'
            go_wp2
            go_roundg (nk - k)
            case measure => omega
            case rel => exact ⟨k + 1, by go_num, by omega, by omega, NX.out, S2⟩
        · have e1 : (x0 == a1) = false := by simpa using h1
          have S2 := hide (S'.out)
          rw [if_neg (fun h => h1 h.1)] at S2
          clear S'
          go_wp2
          go_roundg (nk - k)
          case measure => omega
          case rel => exact ⟨k + 1, by go_num, by omega, by omega, NX.out, S2⟩
      · have hltz : ¬ (k : Int) < (nk : Int) := by omega
        have S2 : Hid (kdF kv a1 b1 0 nk = none) := by
          have := S.out
          rw [show nk - k = 0 by omega, kdF] at this
          exact this.symm
        clear S
        go_wp2
        go_ret
        exact ⟨ret_int (by rw [hR.out, S2.out]; rfl), GT.out.trans G.out⟩
end Go.Proofs.Ytfiaongnogiegaa
