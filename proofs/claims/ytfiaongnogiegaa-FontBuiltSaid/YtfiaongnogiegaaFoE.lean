/- What listsInRange returns; no condition but that the lists are of at most 100000 elements. -/
import Derived.Test.YtfiaongnogiegaaFoD
namespace Go.Proofs.Ytfiaongnogiegaa
open Go.RowKit Go.Sort
set_option linter.unusedVariables false
set_option linter.unusedSimpArgs false
def radP (f : Nat → Ad) (k : Nat) : Bool := runeB (f k).f && (runeB (f k).t && lenB (f k).w)
def rknP (f : Nat → Kn) (k : Nat) : Bool := runeB (f k).a && (runeB (f k).b && decide (-1000 ≤ (f k).d ∧ (f k).d ≤ 1000))
def rlgP (f : Nat → Lg) (k : Nat) : Bool := decide (1114112 ≤ (f k).g ∧ (f k).g ≤ 2097151) && lenB (f k).w
def lrB (F : Fn) : Bool := allK (radP F.av) 0 F.na && (allK (rknP F.kv) 0 F.nk && allK (rlgP F.lv) 0 F.nl)
set_option maxRecDepth 100000 in
set_option maxHeartbeats 8000000 in
theorem listsInRange_any (F : Fn) (s : Sl) (w : World) (H : FAt w F s) (hna : F.na ≤ 100000) (hnk : F.nk ≤ 100000) (hnl : F.nl ≤ 100000) :
    Calls Try.prog 31 #[F.v s] w fun e w' => e = .returned (.bool (lrB F)) ∧ Grew w w' := by
  obtain ⟨u, a, d, g, df, na, av, nk, kv, nl, lv⟩ := F
  obtain ⟨pa, ca, pk, ck, pl, cl⟩ := s
  dsimp only [Fn.v] at *
  obtain ⟨b0, hb0⟩ : ∃ b0, b0 = w.heap.size := ⟨_, rfl⟩
  have G0 : Hid (∀ o, Grew w (w.alloc o)) := fun o => (Grew.refl w).alloc o
  have HA : Hid (SRow w pa na 3 (adC av)) := H.av
  have HK : Hid (SRow w pk nk 3 (knC kv)) := H.kv
  have HL : Hid (SRow w pl nl 4 (lgC lv)) := H.lv
  clear H
  obtain ⟨R, hR⟩ : ∃ R, R = lrB ⟨u, a, d, g, df, na, av, nk, kv, nl, lv⟩ := ⟨_, rfl⟩
  rw [← hR]
  have hR : Hid (R = (allK (radP av) 0 na && (allK (rknP kv) 0 nk && allK (rlgP lv) 0 nl))) := hR
  go_enter Try.func31, Try.ntmps31
  go_wp2
  have B0 : Hid (Blk (w.alloc (.cells [.int .i64 u, .int .i64 a, .int .i64 d, .int .i64 g, .int .i64 df, .slice pa na ca, .slice pk nk ck, .slice pl nl cl].toArray 26)) b0 26 [.int .i64 u, .int .i64 a, .int .i64 d, .int .i64 g, .int .i64 df, .slice pa na ca, .slice pk nk ck, .slice pl nl cl]) := Blk.new hb0
  rw [← hb0]
  have G1 := hide (G0.out (.cells [.int .i64 u, .int .i64 a, .int .i64 d, .int .i64 g, .int .i64 df, .slice pa na ca, .slice pk nk ck, .slice pl nl cl].toArray 26))
  have hw : Hid (w.heap.size ≤ b0) := Nat.le_of_eq hb0.symm
  clear G0 hb0
  generalize (w.alloc (.cells [.int .i64 u, .int .i64 a, .int .i64 d, .int .i64 g, .int .i64 df, .slice pa na ca, .slice pk nk ck, .slice pl nl cl].toArray 26)) = w1 at *
  have S0 : Hid (allK (radP av) 0 (na - 0) = allK (radP av) 0 na) := rfl
  go_loopg [12] (na + 1) (fun gh vk wr => ∃ (k : Nat), vk = .int .i64 (k : Int) ∧ k ≤ na ∧ na - k < gh ∧ Hid (Grew w1 wr) ∧ Hid (allK (radP av) k (na - k) = allK (radP av) 0 na))
  case atStart => exact ⟨0, by go_num, by omega, by omega, Grew.refl _, S0⟩
  case round =>
    clear S0
    obtain ⟨wo0, rfl⟩ : ∃ wo : World, wo = wr := ⟨_, rfl⟩
    obtain ⟨k, rfl, hk, hg, G, S⟩ := hrel
    by_cases hlt : k < na
    · have hltz : (k : Int) < (na : Int) := by omega
      obtain ⟨b, off, rfl, hb, hc⟩ := (HA.out.grew (G1.out.trans G.out)) (by omega)
      have c0 : wo0.cell? ⟨b, off + k * 3, none⟩ = some (.int .i32 (av k).f) := hc k hlt 0 (by decide)
      have c1 : wo0.cell? ⟨b, off + k * 3 + 1, none⟩ = some (.int .i32 (av k).t) := hc k hlt 1 (by decide)
      have c2 : wo0.cell? ⟨b, off + k * 3 + 2, none⟩ = some (.int .i64 (av k).w) := hc k hlt 2 (by decide)
      have S' : Hid (((runeB (av k).f && (runeB (av k).t && lenB (av k).w)) && allK (radP av) (k + 1) (na - (k + 1))) = allK (radP av) 0 na) := by
        have := S.out
        rwa [show na - k = na - (k + 1) + 1 by omega, allK] at this
      have NX : Hid (∀ o, Grew w1 (wo0.alloc o)) := fun o => G.out.alloc o
      clear hc S hb
      generalize (av k).f = x0 at *
      generalize (av k).t = x1 at *
      generalize (av k).w = x2 at *
      have K0 := fun W => hide (isRune_any x0 W)
      have K1 := fun W => hide (isRune_any x1 W)
      have K2 := fun W => hide (length_any x2 W)
      generalize runeB x0 = v0 at *
      generalize runeB x1 = v1 at *
      generalize lenB x2 = v2 at *
      go_wp2_with fail
      refine (K0 _).out.mono ?_
      rintro e w' ⟨rfl, rfl⟩
      clear K0
      cases v0
      · have S2 : Hid (false = allK (radP av) 0 na) := by have := S'.out; exact hide (by simpa using this)
        go_wp2
        go_ret
        exact ⟨ret_bool (by rw [hR.out, ← S2.out]; simp), G1.out.trans (NX.out _)⟩
      go_wp2_with fail
      refine (K1 _).out.mono ?_
      rintro e w' ⟨rfl, rfl⟩
      clear K1
      cases v1
      · have S2 : Hid (false = allK (radP av) 0 na) := by have := S'.out; exact hide (by simpa using this)
        go_wp2
        go_ret
        exact ⟨ret_bool (by rw [hR.out, ← S2.out]; simp), G1.out.trans (NX.out _)⟩
      go_wp2_with fail
      refine (K2 _).out.mono ?_
      rintro e w' ⟨rfl, rfl⟩
      clear K2
      cases v2
      · have S2 : Hid (false = allK (radP av) 0 na) := by have := S'.out; exact hide (by simpa using this)
        go_wp2
        go_ret
        exact ⟨ret_bool (by rw [hR.out, ← S2.out]; simp), G1.out.trans (NX.out _)⟩
      have S2 : Hid (allK (radP av) (k + 1) (na - (k + 1)) = allK (radP av) 0 na) := by have := S'.out; exact hide (by simpa using this)
      clear S'
      go_wp2
      go_roundg (na - k)
      case measure => omega
      case rel => exact ⟨k + 1, by go_num, by omega, by omega, NX.out _, S2⟩
    · have hltz : ¬ (k : Int) < (na : Int) := by omega
      have E0 : Hid (allK (radP av) 0 na = true) := by
        have := S.out
        rw [show na - k = 0 by omega, allK] at this
        exact this.symm
      have BB := hide (B0.out.grew (G.out))
      have GX1 := hide (G.out)
      have GT1 := hide (G1.out.trans G.out)
      have bx := BB.out.cell 6 rfl
      clear S G BB hltz hk hg
      go_wp2
      clear bx
      have S0 : Hid (allK (rknP kv) 0 (nk - 0) = allK (rknP kv) 0 nk) := rfl
      go_loopg [36] (nk + 1) (fun gh vk wr => ∃ (k : Nat), vk = .int .i64 (k : Int) ∧ k ≤ nk ∧ nk - k < gh ∧ Hid (Grew wo0 wr) ∧ Hid (allK (rknP kv) k (nk - k) = allK (rknP kv) 0 nk))
      case atStart => exact ⟨0, by go_num, by omega, by omega, Grew.refl _, S0⟩
      case round =>
        clear S0
        obtain ⟨wo1, rfl⟩ : ∃ wo : World, wo = wr := ⟨_, rfl⟩
        obtain ⟨k, rfl, hk, hg, G, S⟩ := hrel
        by_cases hlt : k < nk
        · have hltz : (k : Int) < (nk : Int) := by omega
          obtain ⟨b, off, rfl, hb, hc⟩ := (HK.out.grew (GT1.out.trans G.out)) (by omega)
          have c0 : wo1.cell? ⟨b, off + k * 3, none⟩ = some (.int .i32 (kv k).a) := hc k hlt 0 (by decide)
          have c1 : wo1.cell? ⟨b, off + k * 3 + 1, none⟩ = some (.int .i32 (kv k).b) := hc k hlt 1 (by decide)
          have c2 : wo1.cell? ⟨b, off + k * 3 + 2, none⟩ = some (.int .i64 (kv k).d) := hc k hlt 2 (by decide)
          have S' : Hid (((runeB (kv k).a && (runeB (kv k).b && decide (-1000 ≤ (kv k).d ∧ (kv k).d ≤ 1000))) && allK (rknP kv) (k + 1) (nk - (k + 1))) = allK (rknP kv) 0 nk) := by
            have := S.out
            rwa [show nk - k = nk - (k + 1) + 1 by omega, allK] at this
          have NX : Hid (∀ o, Grew wo0 (wo1.alloc o)) := fun o => G.out.alloc o
          clear hc S hb
          generalize (kv k).a = x0 at *
          generalize (kv k).b = x1 at *
          generalize (kv k).d = x2 at *
          have K0 := fun W => hide (isRune_any x0 W)
          have K1 := fun W => hide (isRune_any x1 W)
          have K2 := fun W => hide (fwithin_any x2 (-1000) 1000 W)
          generalize runeB x0 = v0 at *
          generalize runeB x1 = v1 at *
          generalize decide (-1000 ≤ x2 ∧ x2 ≤ 1000) = v2 at *
          go_wp2_with fail
          refine (K0 _).out.mono ?_
          rintro e w' ⟨rfl, rfl⟩
          clear K0
          cases v0
          · have S2 : Hid (false = allK (rknP kv) 0 nk) := by have := S'.out; exact hide (by simpa using this)
            go_wp2
            go_ret
            exact ⟨ret_bool (by rw [hR.out, ← S2.out, E0.out]; simp), GT1.out.trans (NX.out _)⟩
          go_wp2_with fail
          refine (K1 _).out.mono ?_
          rintro e w' ⟨rfl, rfl⟩
          clear K1
          cases v1
          · have S2 : Hid (false = allK (rknP kv) 0 nk) := by have := S'.out; exact hide (by simpa using this)
            go_wp2
            go_ret
            exact ⟨ret_bool (by rw [hR.out, ← S2.out, E0.out]; simp), GT1.out.trans (NX.out _)⟩
          go_wp2_with fail
          refine (K2 _).out.mono ?_
          rintro e w' ⟨rfl, rfl⟩
          clear K2
          cases v2
          · have S2 : Hid (false = allK (rknP kv) 0 nk) := by have := S'.out; exact hide (by simpa using this)
            go_wp2
            go_ret
            exact ⟨ret_bool (by rw [hR.out, ← S2.out, E0.out]; simp), GT1.out.trans (NX.out _)⟩
          have S2 : Hid (allK (rknP kv) (k + 1) (nk - (k + 1)) = allK (rknP kv) 0 nk) := by have := S'.out; exact hide (by simpa using this)
          clear S'
          go_wp2
          go_roundg (nk - k)
          case measure => omega
          case rel => exact ⟨k + 1, by go_num, by omega, by omega, NX.out _, S2⟩
        · have hltz : ¬ (k : Int) < (nk : Int) := by omega
          have E1 : Hid (allK (rknP kv) 0 nk = true) := by
            have := S.out
            rw [show nk - k = 0 by omega, allK] at this
            exact this.symm
          have BB := hide (B0.out.grew ((GX1.out.trans G.out)))
          have GX2 := hide (GX1.out.trans G.out)
          have GT2 := hide (GT1.out.trans G.out)
          have bx := BB.out.cell 7 rfl
          clear S G BB hltz hk hg
          go_wp2
          clear bx
          have S0 : Hid (allK (rlgP lv) 0 (nl - 0) = allK (rlgP lv) 0 nl) := rfl
          go_loopg [60] (nl + 1) (fun gh vk wr => ∃ (k : Nat), vk = .int .i64 (k : Int) ∧ k ≤ nl ∧ nl - k < gh ∧ Hid (Grew wo1 wr) ∧ Hid (allK (rlgP lv) k (nl - k) = allK (rlgP lv) 0 nl))
          case atStart => exact ⟨0, by go_num, by omega, by omega, Grew.refl _, S0⟩
          case round =>
            clear S0
            obtain ⟨wo2, rfl⟩ : ∃ wo : World, wo = wr := ⟨_, rfl⟩
            obtain ⟨k, rfl, hk, hg, G, S⟩ := hrel
            by_cases hlt : k < nl
            · have hltz : (k : Int) < (nl : Int) := by omega
              obtain ⟨b, off, rfl, hb, hc⟩ := (HL.out.grew (GT2.out.trans G.out)) (by omega)
              have c0 : wo2.cell? ⟨b, off + k * 4, none⟩ = some (.int .i32 (lv k).a) := hc k hlt 0 (by decide)
              have c1 : wo2.cell? ⟨b, off + k * 4 + 1, none⟩ = some (.int .i32 (lv k).b) := hc k hlt 1 (by decide)
              have c2 : wo2.cell? ⟨b, off + k * 4 + 2, none⟩ = some (.int .i64 (lv k).g) := hc k hlt 2 (by decide)
              have c3 : wo2.cell? ⟨b, off + k * 4 + 3, none⟩ = some (.int .i64 (lv k).w) := hc k hlt 3 (by decide)
              have S' : Hid (((decide (1114112 ≤ (lv k).g ∧ (lv k).g ≤ 2097151) && lenB (lv k).w) && allK (rlgP lv) (k + 1) (nl - (k + 1))) = allK (rlgP lv) 0 nl) := by
                have := S.out
                rwa [show nl - k = nl - (k + 1) + 1 by omega, allK] at this
              have NX : Hid (∀ o, Grew wo1 (wo2.alloc o)) := fun o => G.out.alloc o
              clear hc S hb
              generalize (lv k).a = x0 at *
              generalize (lv k).b = x1 at *
              generalize (lv k).g = x2 at *
              generalize (lv k).w = x3 at *
              have K0 := fun W => hide (fwithin_any x2 1114112 2097151 W)
              have K1 := fun W => hide (length_any x3 W)
              generalize decide (1114112 ≤ x2 ∧ x2 ≤ 2097151) = v0 at *
              generalize lenB x3 = v1 at *
              go_wp2_with fail
              refine (K0 _).out.mono ?_
              rintro e w' ⟨rfl, rfl⟩
              clear K0
              cases v0
              · have S2 : Hid (false = allK (rlgP lv) 0 nl) := by have := S'.out; exact hide (by simpa using this)
                go_wp2
                go_ret
                exact ⟨ret_bool (by rw [hR.out, ← S2.out, E0.out, E1.out]; simp), GT2.out.trans (NX.out _)⟩
              go_wp2_with fail
              refine (K1 _).out.mono ?_
              rintro e w' ⟨rfl, rfl⟩
              clear K1
              cases v1
              · have S2 : Hid (false = allK (rlgP lv) 0 nl) := by have := S'.out; exact hide (by simpa using this)
                go_wp2
                go_ret
                exact ⟨ret_bool (by rw [hR.out, ← S2.out, E0.out, E1.out]; simp), GT2.out.trans (NX.out _)⟩
              have S2 : Hid (allK (rlgP lv) (k + 1) (nl - (k + 1)) = allK (rlgP lv) 0 nl) := by have := S'.out; exact hide (by simpa using this)
              clear S'
              go_wp2
              go_roundg (nl - k)
              case measure => omega
              case rel => exact ⟨k + 1, by go_num, by omega, by omega, NX.out _, S2⟩
            · have hltz : ¬ (k : Int) < (nl : Int) := by omega
              have E2 : Hid (allK (rlgP lv) 0 nl = true) := by
                have := S.out
                rw [show nl - k = 0 by omega, allK] at this
                exact this.symm
              have BB := hide (B0.out.grew ((GX2.out.trans G.out)))
              have GX3 := hide (GX2.out.trans G.out)
              have GT3 := hide (GT2.out.trans G.out)
              clear S G BB hltz hk hg
              go_wp2
              go_ret
              exact ⟨ret_bool (by rw [hR.out, E0.out, E1.out, E2.out]; rfl), GT3.out⟩
end Go.Proofs.Ytfiaongnogiegaa
