/- What listsInOrder, Validate and usable return, for every font; no condition but that its lists read as such. -/
import Derived.Test.YtfiaongnogiegaaFoE
namespace Go.Proofs.Ytfiaongnogiegaa
open Go.RowKit Go.Sort
set_option linter.unusedVariables false
set_option linter.unusedSimpArgs false

def adoP (f : Nat → Ad) (k : Nat) : Bool := decide ((f k).f ≤ (f k).t)
def loB (F : Fn) : Bool := allK (adoP F.av) 0 F.na && (allK (avP F.av) 1 (F.na - 1) && (allK (knP F.kv) 1 (F.nk - 1) && allK (lgP F.lv) 1 (F.nl - 1)))
set_option maxRecDepth 100000 in
set_option maxHeartbeats 8000000 in
theorem listsInOrder_any (F : Fn) (s : Sl) (w : World) (H : FAt w F s) (hna : F.na ≤ 100000) (hnk : F.nk ≤ 100000) (hnl : F.nl ≤ 100000) :
    Calls Try.prog 32 #[F.v s] w fun e w' => e = .returned (.bool (loB F)) ∧ Grew w w' := by
  obtain ⟨u, a, d, g, df, na, av, nk, kv, nl, lv⟩ := F
  obtain ⟨pa, ca, pk, ck, pl, cl⟩ := s
  dsimp only [Fn.v] at *
  obtain ⟨b0, hb0⟩ : ∃ b0, b0 = w.heap.size := ⟨_, rfl⟩
  have G0 : Hid (∀ o, Grew w (w.alloc o)) := fun o => (Grew.refl w).alloc o
  have HA : Hid (SRow w pa na 3 (adC av)) := H.av
  have KA : Hid (∀ W, Grew w W → Calls Try.prog 48 #[.slice pa na ca, .func (.func 49) #[] #[]] W fun e w' => e = .returned (.bool (allK (avP av) 1 (na - 1))) ∧ Grew W w') := fun W g => ascav_any pa na ca av W (H.av.grew g) hna
  have KK : Hid (∀ W, Grew w W → Calls Try.prog 50 #[.slice pk nk ck, .func (.func 51) #[] #[]] W fun e w' => e = .returned (.bool (allK (knP kv) 1 (nk - 1))) ∧ Grew W w') := fun W g => asckn_any pk nk ck kv W (H.kv.grew g) hnk
  have KL : Hid (∀ W, Grew w W → Calls Try.prog 53 #[.slice pl nl cl, .func (.func 54) #[] #[]] W fun e w' => e = .returned (.bool (allK (lgP lv) 1 (nl - 1))) ∧ Grew W w') := fun W g => asclg_any pl nl cl lv W (H.lv.grew g) hnl
  clear H
  obtain ⟨R, hR⟩ : ∃ R, R = loB ⟨u, a, d, g, df, na, av, nk, kv, nl, lv⟩ := ⟨_, rfl⟩
  rw [← hR]
  have hR2 : Hid (R = (allK (adoP av) 0 na && (allK (avP av) 1 (na - 1) && (allK (knP kv) 1 (nk - 1) && allK (lgP lv) 1 (nl - 1))))) := hR
  clear hR
  generalize allK (avP av) 1 (na - 1) = v1 at *
  generalize allK (knP kv) 1 (nk - 1) = v2 at *
  generalize allK (lgP lv) 1 (nl - 1) = v3 at *
  go_enter Try.func32, Try.ntmps32
  go_wp2
  have B0 : Hid (Blk (w.alloc (.cells [.int .i64 u, .int .i64 a, .int .i64 d, .int .i64 g, .int .i64 df, .slice pa na ca, .slice pk nk ck, .slice pl nl cl].toArray 26)) b0 26 [.int .i64 u, .int .i64 a, .int .i64 d, .int .i64 g, .int .i64 df, .slice pa na ca, .slice pk nk ck, .slice pl nl cl]) := Blk.new hb0
  rw [← hb0]
  have G1 := hide (G0.out (.cells [.int .i64 u, .int .i64 a, .int .i64 d, .int .i64 g, .int .i64 df, .slice pa na ca, .slice pk nk ck, .slice pl nl cl].toArray 26))
  have hw : Hid (w.heap.size ≤ b0) := Nat.le_of_eq hb0.symm
  clear G0 hb0
  generalize (w.alloc (.cells [.int .i64 u, .int .i64 a, .int .i64 d, .int .i64 g, .int .i64 df, .slice pa na ca, .slice pk nk ck, .slice pl nl cl].toArray 26)) = w1 at *
  have S0 : Hid (allK (adoP av) 0 (na - 0) = allK (adoP av) 0 na) := rfl
  go_loopg [8] (na + 1) (fun gh vk wr => ∃ (k : Nat), vk = .int .i64 (k : Int) ∧ k ≤ na ∧ na - k < gh ∧ Hid (Grew w1 wr) ∧ Hid (allK (adoP av) k (na - k) = allK (adoP av) 0 na))
  case atStart => exact ⟨0, by go_num, by omega, by omega, Grew.refl _, S0⟩
  case round =>
    clear S0
    obtain ⟨wo, rfl⟩ : ∃ wo : World, wo = wr := ⟨_, rfl⟩
    obtain ⟨k, rfl, hk, hg, G, S⟩ := hrel
    by_cases hlt : k < na
    · have hltz : (k : Int) < (na : Int) := by omega
      obtain ⟨b, off, rfl, hb, hc⟩ := (HA.out.grew (G1.out.trans G.out)) (by omega)
      have c0 : wo.cell? ⟨b, off + k * 3, none⟩ = some (.int .i32 (av k).f) := hc k hlt 0 (by decide)
      have c1 : wo.cell? ⟨b, off + k * 3 + 1, none⟩ = some (.int .i32 (av k).t) := hc k hlt 1 (by decide)
      have c2 : wo.cell? ⟨b, off + k * 3 + 2, none⟩ = some (.int .i64 (av k).w) := hc k hlt 2 (by decide)
      have S' : Hid (((decide ((av k).f ≤ (av k).t)) && allK (adoP av) (k + 1) (na - (k + 1))) = allK (adoP av) 0 na) := by
        have := S.out
        rwa [show na - k = na - (k + 1) + 1 by omega, allK] at this
      have NX : Hid (∀ o, Grew w1 (wo.alloc o)) := fun o => G.out.alloc o
      clear hc S hb
      generalize (av k).f = x0 at *
      generalize (av k).t = x1 at *
      generalize (av k).w = x2 at *
      by_cases hx : x0 ≤ x1
      · have hx' : ¬ x1 < x0 := by omega
        have S2 : Hid (allK (adoP av) (k + 1) (na - (k + 1)) = allK (adoP av) 0 na) := by have := S'.out; rw [show decide (x0 ≤ x1) = true by simp [hx]] at this; exact this
        clear S'
        go_wp2
        go_roundg (na - k)
        case measure => omega
        case rel => exact ⟨k + 1, by go_num, by omega, by omega, NX.out _, S2⟩
      · have hx' : x1 < x0 := by omega
        have S2 : Hid (false = allK (adoP av) 0 na) := by have := S'.out; rw [show decide (x0 ≤ x1) = false by simp [hx]] at this; exact this
        clear S'
        go_wp2
        go_ret
        exact ⟨ret_bool (by rw [hR2.out, ← S2.out]; rfl), G1.out.trans (NX.out _)⟩
    · have hltz : ¬ (k : Int) < (na : Int) := by omega
      have E0 : Hid (allK (adoP av) 0 na = true) := by
        have := S.out
        rw [show na - k = 0 by omega, allK] at this
        exact this.symm
      have BB := hide (B0.out.grew G.out)
      have GT := hide (G1.out.trans G.out)
      have b5 := BB.out.cell 5 rfl
      clear S G hltz hk hg
      go_wp2_with fail
      refine (KA.out _ GT.out).mono ?_
      rintro e w3 ⟨rfl, G3⟩
      have B3 := hide (BB.out.grew G3)
      have GT3 := hide (GT.out.trans G3)
      have b6 := B3.out.cell 6 rfl
      clear G3 BB b5
      cases v1
      · go_wp2
        go_ret
        exact ⟨ret_bool (by rw [hR2.out, E0.out]; rfl), GT3.out⟩
      go_wp2_with fail
      refine (KK.out _ GT3.out).mono ?_
      rintro e w4 ⟨rfl, G4⟩
      have B4 := hide (B3.out.grew G4)
      have GT4 := hide (GT3.out.trans G4)
      have b7 := B4.out.cell 7 rfl
      clear G4 B3 b6
      cases v2
      · go_wp2
        go_ret
        exact ⟨ret_bool (by rw [hR2.out, E0.out]; rfl), GT4.out⟩
      go_wp2_with fail
      refine (KL.out _ GT4.out).mono ?_
      rintro e w5 ⟨rfl, G5⟩
      have GT5 := hide (GT4.out.trans G5)
      clear G5 B4 b7
      go_wp2
      go_ret
      exact ⟨ret_bool (by rw [hR2.out, E0.out]; simp), GT5.out⟩

def vldF (F : Fn) : Int := if 100 < F.na ∨ 100 < F.nk ∨ 100 < F.nl then 2 else if (metB F && lrB F) = false then 1 else if loB F = false then 10 else 0
set_option maxRecDepth 100000 in
set_option maxHeartbeats 8000000 in
theorem Validate_any (F : Fn) (s : Sl) (w : World) (H : FAt w F s) :
    Calls Try.prog 10 #[F.v s] w fun e w' => e = .returned (.int .i64 (vldF F)) ∧ Grew w w' := by
  obtain ⟨R, hR⟩ : ∃ R, R = vldF F := ⟨_, rfl⟩
  rw [← hR]
  by_cases h100 : 100 < F.na ∨ 100 < F.nk ∨ 100 < F.nl
  · have hR : R = 2 := by rw [hR, vldF, if_pos h100]
    subst hR
    clear H
    obtain ⟨u, a, d, g, df, na, av, nk, kv, nl, lv⟩ := F
    obtain ⟨pa, ca, pk, ck, pl, cl⟩ := s
    dsimp only [Fn.v] at *
    obtain ⟨b0, hb0⟩ : ∃ b0, b0 = w.heap.size := ⟨_, rfl⟩
    have G0 : Hid (∀ o, Grew w (w.alloc o)) := fun o => (Grew.refl w).alloc o
    by_cases h1 : 100 < na
    · have z1 : (100 : Int) < (na : Int) := by omega
      clear h100
      go_enter Try.func10, Try.ntmps10
      go_wp2
      go_ret
      exact ⟨rfl, G0.out _⟩
    have z1 : ¬ (100 : Int) < (na : Int) := by omega
    by_cases h2 : 100 < nk
    · have z2 : (100 : Int) < (nk : Int) := by omega
      clear h100
      go_enter Try.func10, Try.ntmps10
      go_wp2
      go_ret
      exact ⟨rfl, G0.out _⟩
    have z2 : ¬ (100 : Int) < (nk : Int) := by omega
    have z3 : (100 : Int) < (nl : Int) := by omega
    clear h100
    go_enter Try.func10, Try.ntmps10
    go_wp2
    go_ret
    exact ⟨rfl, G0.out _⟩
  · rw [vldF, if_neg h100] at hR
    have KM := fun W => hide (metricsInRange_any F s W)
    have KR : Hid (∀ W, Grew w W → Calls Try.prog 31 #[F.v s] W fun e w' => e = .returned (.bool (lrB F)) ∧ Grew W w') := fun W g => listsInRange_any F s W (H.grew g) (by omega) (by omega) (by omega)
    have KO : Hid (∀ W, Grew w W → Calls Try.prog 32 #[F.v s] W fun e w' => e = .returned (.bool (loB F)) ∧ Grew W w') := fun W g => listsInOrder_any F s W (H.grew g) (by omega) (by omega) (by omega)
    have hR := hide hR
    generalize metB F = v1 at *
    generalize lrB F = v2 at *
    generalize loB F = v3 at *
    clear H
    obtain ⟨u, a, d, g, df, na, av, nk, kv, nl, lv⟩ := F
    obtain ⟨pa, ca, pk, ck, pl, cl⟩ := s
    dsimp only [Fn.v] at *
    obtain ⟨b0, hb0⟩ : ∃ b0, b0 = w.heap.size := ⟨_, rfl⟩
    have G0 : Hid (∀ o, Grew w (w.alloc o)) := fun o => (Grew.refl w).alloc o
    have z1 : ¬ (100 : Int) < (na : Int) := by omega
    have z2 : ¬ (100 : Int) < (nk : Int) := by omega
    have z3 : ¬ (100 : Int) < (nl : Int) := by omega
    clear h100
    go_enter Try.func10, Try.ntmps10
    go_wp2_with fail
    have B0 : Hid (Blk (w.alloc (.cells [.int .i64 u, .int .i64 a, .int .i64 d, .int .i64 g, .int .i64 df, .slice pa na ca, .slice pk nk ck, .slice pl nl cl].toArray 26)) b0 26 [.int .i64 u, .int .i64 a, .int .i64 d, .int .i64 g, .int .i64 df, .slice pa na ca, .slice pk nk ck, .slice pl nl cl]) := Blk.new hb0
    rw [← hb0]
    have G1 := hide (G0.out (.cells [.int .i64 u, .int .i64 a, .int .i64 d, .int .i64 g, .int .i64 df, .slice pa na ca, .slice pk nk ck, .slice pl nl cl].toArray 26))
    have hw : Hid (w.heap.size ≤ b0) := Nat.le_of_eq hb0.symm
    clear G0 hb0
    generalize (w.alloc (.cells [.int .i64 u, .int .i64 a, .int .i64 d, .int .i64 g, .int .i64 df, .slice pa na ca, .slice pk nk ck, .slice pl nl cl].toArray 26)) = w1 at *
    have c0 := (B0.out).cell 0 rfl
    have c1 := (B0.out).cell 1 rfl
    have c2 := (B0.out).cell 2 rfl
    have c3 := (B0.out).cell 3 rfl
    have c4 := (B0.out).cell 4 rfl
    have c5 := (B0.out).cell 5 rfl
    have c6 := (B0.out).cell 6 rfl
    have c7 := (B0.out).cell 7 rfl
    refine (KM _).out.mono ?_
    rintro e w3 ⟨rfl, G3⟩
    have B3 := hide (B0.out.grew G3)
    have GT3 := hide (G1.out.trans G3)
    clear G3 c0 c1 c2 c3 c4 c5 c6 c7 B0 KM
    have b0 := B3.out.cell 0 rfl
    have b1 := B3.out.cell 1 rfl
    have b2 := B3.out.cell 2 rfl
    have b3 := B3.out.cell 3 rfl
    have b4 := B3.out.cell 4 rfl
    have b5 := B3.out.cell 5 rfl
    have b6 := B3.out.cell 6 rfl
    have b7 := B3.out.cell 7 rfl
    cases v1
    · go_wp2
      go_ret
      exact ⟨ret_int (by rw [hR.out]; rfl), GT3.out⟩
    go_wp2_with fail
    refine (KR.out _ GT3.out).mono ?_
    rintro e w4 ⟨rfl, G4⟩
    have B4 := hide (B3.out.grew G4)
    have GT4 := hide (GT3.out.trans G4)
    clear G4 b0 b1 b2 b3 b4 b5 b6 b7 B3 KR
    have b0 := B4.out.cell 0 rfl
    have b1 := B4.out.cell 1 rfl
    have b2 := B4.out.cell 2 rfl
    have b3 := B4.out.cell 3 rfl
    have b4 := B4.out.cell 4 rfl
    have b5 := B4.out.cell 5 rfl
    have b6 := B4.out.cell 6 rfl
    have b7 := B4.out.cell 7 rfl
    cases v2
    · go_wp2
      go_ret
      exact ⟨ret_int (by rw [hR.out]; rfl), GT4.out⟩
    go_wp2_with fail
    refine (KO.out _ GT4.out).mono ?_
    rintro e w5 ⟨rfl, G5⟩
    have GT5 := hide (GT4.out.trans G5)
    clear G5 b0 b1 b2 b3 b4 b5 b6 b7 B4 KO
    cases v3
    · go_wp2
      go_ret
      exact ⟨ret_int (by rw [hR.out]; rfl), GT5.out⟩
    · go_wp2
      go_ret
      exact ⟨ret_int (by rw [hR.out]; rfl), GT5.out⟩

def useB (F : Fn) (size : Int) : Bool := decide (1 ≤ size ∧ size ≤ 1000) && (vldF F == 0)
set_option maxRecDepth 100000 in
set_option maxHeartbeats 8000000 in
theorem usable_any (F : Fn) (s : Sl) (size : Int) (w : World) (H : FAt w F s) :
    Calls Try.prog 34 #[F.v s, .int .i64 size] w fun e w' => e = .returned (.bool (useB F size)) ∧ Grew w w' := by
  have KW := fun W => hide (fwithin_any size 1 1000 W)
  have KV : Hid (∀ W, Grew w W → Calls Try.prog 10 #[F.v s] W fun e w' => e = .returned (.int .i64 (vldF F)) ∧ Grew W w') := fun W g => Validate_any F s W (H.grew g)
  unfold useB
  generalize decide (1 ≤ size ∧ size ≤ 1000) = v1 at *
  generalize vldF F = x at *
  clear H
  obtain ⟨u, a, d, g, df, na, av, nk, kv, nl, lv⟩ := F
  obtain ⟨pa, ca, pk, ck, pl, cl⟩ := s
  dsimp only [Fn.v] at *
  obtain ⟨b0, hb0⟩ : ∃ b0, b0 = w.heap.size := ⟨_, rfl⟩
  have G0 : Hid (∀ o, Grew w (w.alloc o)) := fun o => (Grew.refl w).alloc o
  go_enter Try.func34, Try.ntmps34
  go_wp2_with fail
  have B0 : Hid (Blk (w.alloc (.cells [.int .i64 u, .int .i64 a, .int .i64 d, .int .i64 g, .int .i64 df, .slice pa na ca, .slice pk nk ck, .slice pl nl cl].toArray 26)) b0 26 [.int .i64 u, .int .i64 a, .int .i64 d, .int .i64 g, .int .i64 df, .slice pa na ca, .slice pk nk ck, .slice pl nl cl]) := Blk.new hb0
  rw [← hb0]
  have G1 := hide (G0.out (.cells [.int .i64 u, .int .i64 a, .int .i64 d, .int .i64 g, .int .i64 df, .slice pa na ca, .slice pk nk ck, .slice pl nl cl].toArray 26))
  have hw : Hid (w.heap.size ≤ b0) := Nat.le_of_eq hb0.symm
  clear G0 hb0
  generalize (w.alloc (.cells [.int .i64 u, .int .i64 a, .int .i64 d, .int .i64 g, .int .i64 df, .slice pa na ca, .slice pk nk ck, .slice pl nl cl].toArray 26)) = w1 at *
  have c0 := (B0.out).cell 0 rfl
  have c1 := (B0.out).cell 1 rfl
  have c2 := (B0.out).cell 2 rfl
  have c3 := (B0.out).cell 3 rfl
  have c4 := (B0.out).cell 4 rfl
  have c5 := (B0.out).cell 5 rfl
  have c6 := (B0.out).cell 6 rfl
  have c7 := (B0.out).cell 7 rfl
  refine (KW _).out.mono ?_
  rintro e w' ⟨rfl, rfl⟩
  clear KW B0
  cases v1
  · go_wp2
    go_ret
    exact ⟨rfl, G1.out⟩
  go_wp2_with fail
  refine (KV.out _ G1.out).mono ?_
  rintro e w3 ⟨rfl, G3⟩
  have GT := hide (G1.out.trans G3)
  clear G3 c0 c1 c2 c3 c4 c5 c6 c7 KV
  by_cases hx : x = 0
  · subst hx
    go_wp2
    go_ret
    exact ⟨rfl, GT.out⟩
  · have hx' : (x == 0) = false := by simpa using hx
    go_wp2
    go_ret
    exact ⟨ret_bool (by rw [hx']; rfl), GT.out⟩
end Go.Proofs.Ytfiaongnogiegaa
