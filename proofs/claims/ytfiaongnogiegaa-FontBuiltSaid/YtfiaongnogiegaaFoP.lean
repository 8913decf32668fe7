/- What the references metric, valid, ascending and Validate return, for every font whose ligatures are of runes; no other condition but that its lists read as such. -/
import Derived.Test.YtfiaongnogiegaaFoG
namespace Go.Proofs.Ytfiaongnogiegaa
open Go.RowKit Go.Sort
set_option linter.unusedVariables false
set_option linter.unusedSimpArgs false
theorem rmetric_any (x : Int) (w : World) :
    Calls Try.prog 39 #[.int .i64 x] w fun e w' => e = .returned (.bool (lenB x)) ∧ w = w' := by
  unfold lenB
  by_cases h1 : 0 ≤ x
  · by_cases h2 : x ≤ 4096
    · have e : decide (0 ≤ x ∧ x ≤ 4096) = true := by simp [h1, h2]
      rw [e]
      go_enter Try.func39, Try.ntmps39
      go_wp2
      go_ret
      exact ⟨rfl, rfl⟩
    · have e : decide (0 ≤ x ∧ x ≤ 4096) = false := by simp [h1, h2]
      rw [e]
      go_enter Try.func39, Try.ntmps39
      go_wp2
      go_ret
      exact ⟨rfl, rfl⟩
  · have e : decide (0 ≤ x ∧ x ≤ 4096) = false := by simp [h1]
    rw [e]
    go_enter Try.func39, Try.ntmps39
    go_wp2
    go_ret
    exact ⟨rfl, rfl⟩
theorem rvalid_any (x : Int) (w : World) :
    Calls Try.prog 40 #[.int .i32 x] w fun e w' => e = .returned (.bool (runeB x)) ∧ w = w' := by
  unfold runeB
  by_cases h1 : 0 ≤ x
  · by_cases h2 : x ≤ 1114111
    · have e : decide (0 ≤ x ∧ x ≤ 1114111) = true := by simp [h1, h2]
      rw [e]
      go_enter Try.func40, Try.ntmps40
      go_wp2
      go_ret
      exact ⟨rfl, rfl⟩
    · have e : decide (0 ≤ x ∧ x ≤ 1114111) = false := by simp [h1, h2]
      rw [e]
      go_enter Try.func40, Try.ntmps40
      go_wp2
      go_ret
      exact ⟨rfl, rfl⟩
  · have e : decide (0 ≤ x ∧ x ≤ 1114111) = false := by simp [h1]
    rw [e]
    go_enter Try.func40, Try.ntmps40
    go_wp2
    go_ret
    exact ⟨rfl, rfl⟩
theorem rascending_any (a b c d : Int) (w : World) :
    Calls Try.prog 41 #[.int .i32 a, .int .i32 b, .int .i32 c, .int .i32 d] w fun e w' => e = .returned (.bool (preB a b c d)) ∧ w = w' := by
  unfold preB
  by_cases h1 : a < c
  · have e : decide (a < c ∨ (a = c ∧ b < d)) = true := by simp [h1]
    rw [e]
    go_enter Try.func41, Try.ntmps41
    go_wp2
    go_ret
    exact ⟨rfl, rfl⟩
  · by_cases h2 : a = c
    · subst h2
      by_cases h3 : b < d
      · have e : decide (a < a ∨ (a = a ∧ b < d)) = true := by simp [h3]
        rw [e]
        go_enter Try.func41, Try.ntmps41
        go_wp2
        go_ret
        exact ⟨rfl, rfl⟩
      · have e : decide (a < a ∨ (a = a ∧ b < d)) = false := by simp [h3]
        rw [e]
        go_enter Try.func41, Try.ntmps41
        go_wp2
        go_ret
        exact ⟨rfl, rfl⟩
    · have e : decide (a < c ∨ (a = c ∧ b < d)) = false := by simp [h1, h2]
      have h2b : (a == c) = false := by simpa using h2
      rw [e]
      go_enter Try.func41, Try.ntmps41
      go_wp2
      go_ret
      exact ⟨rfl, rfl⟩


def rloP (f : Nat → Ad) (k : Nat) : Bool := adoP f k && (k == 0 || avP f k)
theorem rlo_is (f : Nat → Ad) (n : Nat) : allK (rloP f) 0 n = (allK (adoP f) 0 n && allK (avP f) 1 (n - 1)) := by
  rw [Bool.eq_iff_iff]
  simp only [Bool.and_eq_true, allK_spec]
  constructor
  · intro h
    refine ⟨fun i h1 h2 => ?_, fun i h1 h2 => ?_⟩
    · have := h i h1 h2
      simp only [rloP, Bool.and_eq_true] at this
      exact this.1
    · have := h i (by omega) (by omega)
      simp only [rloP, Bool.and_eq_true, Bool.or_eq_true, beq_iff_eq] at this
      rcases this.2 with h3 | h3
      · omega
      · exact h3
  · rintro ⟨h1, h2⟩ i h3 h4
    simp only [rloP, Bool.and_eq_true, Bool.or_eq_true, beq_iff_eq]
    refine ⟨h1 i h3 h4, ?_⟩
    by_cases e : i = 0
    · exact Or.inl e
    · exact Or.inr (h2 i (by omega) (by omega))
def rlgQ (f : Nat → Lg) (k : Nat) : Bool := runeB (f k).a && (runeB (f k).b && (decide (1114112 ≤ (f k).g ∧ (f k).g ≤ 2097151) && lenB (f k).w))
/-- The ligatures are of runes. -/
def LR (F : Fn) : Prop := ∀ i, i < F.nl → runeB (F.lv i).a = true ∧ runeB (F.lv i).b = true
theorem rlg_is {F : Fn} (h : LR F) : allK (rlgQ F.lv) 0 F.nl = allK (rlgP F.lv) 0 F.nl := by
  rw [Bool.eq_iff_iff]
  simp only [allK_spec]
  constructor
  · intro q i h1 h2
    have := q i h1 h2
    simp only [rlgQ, Bool.and_eq_true] at this
    simp only [rlgP, Bool.and_eq_true]
    exact this.2.2
  · intro q i h1 h2
    have := q i h1 h2
    obtain ⟨e1, e2⟩ := h i (by omega)
    simp only [rlgQ, e1, e2, Bool.true_and]
    exact this
def rv (m a k l p q s : Bool) : Int := if (m && (a && (k && l))) = false then 1 else if (p && (q && s)) = false then 10 else 0
theorem vld_rv {F : Fn} (h : LR F) (h100 : ¬ (100 < F.na ∨ 100 < F.nk ∨ 100 < F.nl)) : vldF F = rv (metB F) (allK (radP F.av) 0 F.na) (allK (rknP F.kv) 0 F.nk) (allK (rlgQ F.lv) 0 F.nl) (allK (rloP F.av) 0 F.na) (allK (knP F.kv) 1 (F.nk - 1)) (allK (lgP F.lv) 1 (F.nl - 1)) := by
  rw [vldF, if_neg h100, rv, rlo_is, rlg_is h]
  unfold lrB loB
  simp only [Bool.and_assoc]

set_option maxRecDepth 100000 in
set_option maxHeartbeats 16000000 in
theorem rValidate_any (F : Fn) (s : Sl) (w : World) (H : FAt w F s) (hL : LR F) :
    Calls Try.prog 20 #[F.v s] w fun e w' => e = .returned (.int .i64 (vldF F)) ∧ Grew w w' := by
  by_cases h100 : 100 < F.na ∨ 100 < F.nk ∨ 100 < F.nl
  · obtain ⟨R, hR⟩ : ∃ R, R = vldF F := ⟨_, rfl⟩
    rw [← hR]
    have hR : R = 2 := by rw [hR, vldF, if_pos h100]
    subst hR
    clear H
    obtain ⟨u, a, d, g, df, na, av, nk, kv, nl, lv⟩ := F
    obtain ⟨pa, ca, pk, ck, pl, cl⟩ := s
    dsimp only [Fn.v] at *
    obtain ⟨b0, hb0⟩ : ∃ b0, b0 = w.heap.size := ⟨_, rfl⟩
    have G0 : Hid (∀ o, Grew w (w.alloc o)) := fun o => (Grew.refl w).alloc o
    by_cases h1 : 100 < na
    · have z1 : (100 : Int) < (na : Int) := by omega
      clear h100
      go_enter Try.func20, Try.ntmps20
      go_wp2
      go_ret
      exact ⟨rfl, G0.out _⟩
    have z1 : ¬ (100 : Int) < (na : Int) := by omega
    by_cases h2 : 100 < nk
    · have z2 : (100 : Int) < (nk : Int) := by omega
      clear h100
      go_enter Try.func20, Try.ntmps20
      go_wp2
      go_ret
      exact ⟨rfl, G0.out _⟩
    have z2 : ¬ (100 : Int) < (nk : Int) := by omega
    have z3 : (100 : Int) < (nl : Int) := by omega
    clear h100
    go_enter Try.func20, Try.ntmps20
    go_wp2
    go_ret
    exact ⟨rfl, G0.out _⟩
  have hV := vld_rv hL h100
  obtain ⟨R, hR⟩ : ∃ R, R = vldF F := ⟨_, rfl⟩
  rw [← hR]
  rw [← hR] at hV
  clear hR
  obtain ⟨u, a, d, g, df, na, av, nk, kv, nl, lv⟩ := F
  obtain ⟨pa, ca, pk, ck, pl, cl⟩ := s
  dsimp only [Fn.v] at *
  obtain ⟨b0, hb0⟩ : ∃ b0, b0 = w.heap.size := ⟨_, rfl⟩
  have G0 : Hid (∀ o, Grew w (w.alloc o)) := fun o => (Grew.refl w).alloc o
  have HA : Hid (SRow w pa na 3 (adC av)) := H.av
  have HK : Hid (SRow w pk nk 3 (knC kv)) := H.kv
  have HL : Hid (SRow w pl nl 4 (lgC lv)) := H.lv
  clear H hL
  have z1 : ¬ (100 : Int) < (na : Int) := by omega
  have z2 : ¬ (100 : Int) < (nk : Int) := by omega
  have z3 : ¬ (100 : Int) < (nl : Int) := by omega
  have n1 : na ≤ 100 := by omega
  have n2 : nk ≤ 100 := by omega
  have n3 : nl ≤ 100 := by omega
  have hV2 : Hid (R = rv (metB ⟨u, a, d, g, df, na, av, nk, kv, nl, lv⟩) (allK (radP av) 0 na) (allK (rknP kv) 0 nk) (allK (rlgQ lv) 0 nl) (allK (rloP av) 0 na) (allK (knP kv) 1 (nk - 1)) (allK (lgP lv) 1 (nl - 1))) := hV
  clear hV
  have hM : Hid (metB ⟨u, a, d, g, df, na, av, nk, kv, nl, lv⟩ = (decide (16 ≤ u ∧ u ≤ 4096) && (lenB a && (lenB d && (lenB g && (lenB df && decide (1 ≤ a + d))))))) := rfl
  generalize metB ⟨u, a, d, g, df, na, av, nk, kv, nl, lv⟩ = mb at *
  clear h100
  have ha := @lenB_bd a
  have hd := @lenB_bd d
  have KA := fun W => hide (rmetric_any a W)
  have KD := fun W => hide (rmetric_any d W)
  have KG := fun W => hide (rmetric_any g W)
  have KF := fun W => hide (rmetric_any df W)
  have ha : Hid (lenB a = true → 0 ≤ a ∧ a ≤ 4096) := ha
  have hd : Hid (lenB d = true → 0 ≤ d ∧ d ≤ 4096) := hd
  generalize lenB a = va at *
  generalize lenB d = vd at *
  generalize lenB g = vg at *
  generalize lenB df = vf at *
  by_cases u1 : u < 16
  · have E : Hid (mb = false) := by have := hM.out; rw [show decide (16 ≤ u ∧ u ≤ 4096) = false by simp; omega] at this; exact this
    clear hM ha hd KA KD KG KF
    go_enter Try.func20, Try.ntmps20
    go_wp2
    go_ret
    exact ⟨ret_int (by rw [hV2.out, E.out]; rfl), G0.out _⟩
  by_cases u2 : 4096 < u
  · have E : Hid (mb = false) := by have := hM.out; rw [show decide (16 ≤ u ∧ u ≤ 4096) = false by simp; omega] at this; exact this
    clear hM ha hd KA KD KG KF
    go_enter Try.func20, Try.ntmps20
    go_wp2
    go_ret
    exact ⟨ret_int (by rw [hV2.out, E.out]; rfl), G0.out _⟩
  have hM : Hid (mb = (va && (vd && (vg && (vf && decide (1 ≤ a + d)))))) := by have := hM.out; rw [show decide (16 ≤ u ∧ u ≤ 4096) = true by simp; omega] at this; exact hide (by simpa using this)
  go_enter Try.func20, Try.ntmps20
  go_wp2_with fail
  have B0 : Hid (Blk (w.alloc (.cells [.int .i64 u, .int .i64 a, .int .i64 d, .int .i64 g, .int .i64 df, .slice pa na ca, .slice pk nk ck, .slice pl nl cl].toArray 26)) b0 26 [.int .i64 u, .int .i64 a, .int .i64 d, .int .i64 g, .int .i64 df, .slice pa na ca, .slice pk nk ck, .slice pl nl cl]) := Blk.new hb0
  rw [← hb0]
  have G1 := hide (G0.out (.cells [.int .i64 u, .int .i64 a, .int .i64 d, .int .i64 g, .int .i64 df, .slice pa na ca, .slice pk nk ck, .slice pl nl cl].toArray 26))
  have hw : Hid (w.heap.size ≤ b0) := Nat.le_of_eq hb0.symm
  clear G0 hb0
  generalize (w.alloc (.cells [.int .i64 u, .int .i64 a, .int .i64 d, .int .i64 g, .int .i64 df, .slice pa na ca, .slice pk nk ck, .slice pl nl cl].toArray 26)) = w1 at *
  have c0 := (B0.out).cell 0 rfl
  have c1 := (B0.out).cell 1 rfl
  have c2 := (B0.out).cell 2 rfl
  have c3 := (B0.out).cell 3 rfl
  have c4 := (B0.out).cell 4 rfl
  have c5 := (B0.out).cell 5 rfl
  have c6 := (B0.out).cell 6 rfl
  have c7 := (B0.out).cell 7 rfl
  refine (KA _).out.mono ?_
  rintro e w' ⟨rfl, rfl⟩
  clear KA
  cases va
  · have E : Hid (mb = false) := by have := hM.out; exact hide (by simpa using this)
    go_wp2
    go_ret
    exact ⟨ret_int (by rw [hV2.out, E.out]; rfl), G1.out⟩
  go_wp2_with fail
  refine (KD _).out.mono ?_
  rintro e w' ⟨rfl, rfl⟩
  clear KD
  cases vd
  · have E : Hid (mb = false) := by have := hM.out; exact hide (by simpa using this)
    go_wp2
    go_ret
    exact ⟨ret_int (by rw [hV2.out, E.out]; rfl), G1.out⟩
  go_wp2_with fail
  refine (KG _).out.mono ?_
  rintro e w' ⟨rfl, rfl⟩
  clear KG
  cases vg
  · have E : Hid (mb = false) := by have := hM.out; exact hide (by simpa using this)
    go_wp2
    go_ret
    exact ⟨ret_int (by rw [hV2.out, E.out]; rfl), G1.out⟩
  obtain ⟨a1, a2⟩ : 0 ≤ a ∧ a ≤ 4096 := by have := ha.out; simpa using this
  obtain ⟨d1, d2⟩ : 0 ≤ d ∧ d ≤ 4096 := by have := hd.out; simpa using this
  have wad : IntKind.i64.wrap (a + d) = a + d := wr (by omega) (by omega)
  clear ha hd
  by_cases had : a + d < 1
  · have E : Hid (mb = false) := by have := hM.out; rw [show decide (1 ≤ a + d) = false by simp; omega] at this; exact hide (by simpa using this)
    go_wp2
    go_ret
    exact ⟨ret_int (by rw [hV2.out, E.out]; rfl), G1.out⟩
  go_wp2_with fail
  refine (KF _).out.mono ?_
  rintro e w' ⟨rfl, rfl⟩
  clear KF
  cases vf
  · have E : Hid (mb = false) := by have := hM.out; exact hide (by simpa using this)
    go_wp2
    go_ret
    exact ⟨ret_int (by rw [hV2.out, E.out]; rfl), G1.out⟩
  have EM : Hid (mb = true) := by have := hM.out; rw [show decide (1 ≤ a + d) = true by simp; omega] at this; exact hide (by simpa using this)
  clear hM
  go_wp2
  clear wad a1 a2 d1 d2 had u1 u2 c0 c1 c2 c3 c4 c5 c6 c7
  have S0 : Hid (allK (radP av) 0 (na - 0) = allK (radP av) 0 na) := rfl
  go_loopg [3] (na + 1) (fun gh vk wr => ∃ (k : Nat), vk = .int .i64 (k : Int) ∧ k ≤ na ∧ na - k < gh ∧ Hid (Grew w1 wr) ∧ Hid (allK (radP av) k (na - k) = allK (radP av) 0 na))
  case atStart => exact ⟨0, by go_num, by omega, by omega, Grew.refl _, S0⟩
  case round =>
    clear S0
    obtain ⟨wo0, rfl⟩ : ∃ wo : World, wo = wr := ⟨_, rfl⟩
    obtain ⟨k, rfl, hk, hg, G, S⟩ := hrel
    have BB := hide (B0.out.grew (G.out))
    have bx := BB.out.cell 5 rfl
    by_cases hlt : k < na
    · have hltz : (k : Int) < (na : Int) := by omega
      obtain ⟨b, off, rfl, hb, hc⟩ := (HA.out.grew (G1.out.trans G.out)) (by omega)
      have c0 : wo0.cell? ⟨b, off + k * 3, none⟩ = some (.int .i32 (av k).f) := hc k hlt 0 (by decide)
      have c1 : wo0.cell? ⟨b, off + k * 3 + 1, none⟩ = some (.int .i32 (av k).t) := hc k hlt 1 (by decide)
      have c2 : wo0.cell? ⟨b, off + k * 3 + 2, none⟩ = some (.int .i64 (av k).w) := hc k hlt 2 (by decide)
      have S' : Hid (((runeB (av k).f && (runeB (av k).t && lenB (av k).w)) && allK (radP av) (k + 1) (na - (k + 1))) = allK (radP av) 0 na) := by
        have := S.out
        rwa [show na - k = na - (k + 1) + 1 by omega, allK] at this
      have NX : Hid (∀ o, Grew w1 (wo0.alloc o)) := fun o => G.out.alloc o
      clear hc S hb BB
      generalize (av k).f = x0 at *
      generalize (av k).t = x1 at *
      generalize (av k).w = x2 at *
      have K0 := fun W => hide (rvalid_any x0 W)
      generalize runeB x0 = v0 at *
      have K1 := fun W => hide (rvalid_any x1 W)
      generalize runeB x1 = v1 at *
      have K2 := fun W => hide (rmetric_any x2 W)
      generalize lenB x2 = v2 at *
      go_wp2_with fail
      refine (K0 _).out.mono ?_
      rintro e w' ⟨rfl, rfl⟩
      clear K0
      cases v0
      · have S2 : Hid (false = allK (radP av) 0 na) := by have := S'.out; exact hide (by simpa using this)
        go_wp2
        go_ret
        exact ⟨ret_int (by rw [hV2.out, ← S2.out, EM.out]; simp [rv]), G1.out.trans (NX.out _)⟩
      go_wp2_with fail
      refine (K1 _).out.mono ?_
      rintro e w' ⟨rfl, rfl⟩
      clear K1
      cases v1
      · have S2 : Hid (false = allK (radP av) 0 na) := by have := S'.out; exact hide (by simpa using this)
        go_wp2
        go_ret
        exact ⟨ret_int (by rw [hV2.out, ← S2.out, EM.out]; simp [rv]), G1.out.trans (NX.out _)⟩
      go_wp2_with fail
      refine (K2 _).out.mono ?_
      rintro e w' ⟨rfl, rfl⟩
      clear K2
      cases v2
      · have S2 : Hid (false = allK (radP av) 0 na) := by have := S'.out; exact hide (by simpa using this)
        go_wp2
        go_ret
        exact ⟨ret_int (by rw [hV2.out, ← S2.out, EM.out]; simp [rv]), G1.out.trans (NX.out _)⟩
      have S2 : Hid (allK (radP av) (k + 1) (na - (k + 1)) = allK (radP av) 0 na) := by have := S'.out; exact hide (by simpa using this)
      clear S'
      go_wp2
      go_roundg (na - k)
      case measure => omega
      case rel => exact ⟨k + 1, by go_num, by omega, by omega, NX.out _, S2⟩
    · have hltz : ¬ (k : Int) < (na : Int) := by omega
      have E0 : Hid (allK (radP av) 0 na = true) := by
        have := S.out
        rw [show na - k = 0 by omega, allK] at this
        exact this.symm
      have GX1 := hide (G.out)
      have GT1 := hide (G1.out.trans G.out)
      clear S G BB hk hg
      go_wp2
      clear bx hltz hlt
      have S0 : Hid (allK (rknP kv) 0 (nk - 0) = allK (rknP kv) 0 nk) := rfl
      go_loopg [5] (nk + 1) (fun gh vk wr => ∃ (k : Nat), vk = .int .i64 (k : Int) ∧ k ≤ nk ∧ nk - k < gh ∧ Hid (Grew wo0 wr) ∧ Hid (allK (rknP kv) k (nk - k) = allK (rknP kv) 0 nk))
      case atStart => exact ⟨0, by go_num, by omega, by omega, Grew.refl _, S0⟩
      case round =>
        clear S0
        obtain ⟨wo1, rfl⟩ : ∃ wo : World, wo = wr := ⟨_, rfl⟩
        obtain ⟨k, rfl, hk, hg, G, S⟩ := hrel
        have BB := hide (B0.out.grew (GX1.out.trans G.out))
        have bx := BB.out.cell 6 rfl
        by_cases hlt : k < nk
        · have hltz : (k : Int) < (nk : Int) := by omega
          obtain ⟨b, off, rfl, hb, hc⟩ := (HK.out.grew (GT1.out.trans G.out)) (by omega)
          have c0 : wo1.cell? ⟨b, off + k * 3, none⟩ = some (.int .i32 (kv k).a) := hc k hlt 0 (by decide)
          have c1 : wo1.cell? ⟨b, off + k * 3 + 1, none⟩ = some (.int .i32 (kv k).b) := hc k hlt 1 (by decide)
          have c2 : wo1.cell? ⟨b, off + k * 3 + 2, none⟩ = some (.int .i64 (kv k).d) := hc k hlt 2 (by decide)
          have S' : Hid (((runeB (kv k).a && (runeB (kv k).b && decide (-1000 ≤ (kv k).d ∧ (kv k).d ≤ 1000))) && allK (rknP kv) (k + 1) (nk - (k + 1))) = allK (rknP kv) 0 nk) := by
            have := S.out
            rwa [show nk - k = nk - (k + 1) + 1 by omega, allK] at this
          have NX : Hid (∀ o, Grew wo0 (wo1.alloc o)) := fun o => G.out.alloc o
          clear hc S hb BB
          generalize (kv k).a = x0 at *
          generalize (kv k).b = x1 at *
          generalize (kv k).d = x2 at *
          have K0 := fun W => hide (rvalid_any x0 W)
          generalize runeB x0 = v0 at *
          have K1 := fun W => hide (rvalid_any x1 W)
          generalize runeB x1 = v1 at *
          go_wp2_with fail
          refine (K0 _).out.mono ?_
          rintro e w' ⟨rfl, rfl⟩
          clear K0
          cases v0
          · have S2 : Hid (false = allK (rknP kv) 0 nk) := by have := S'.out; exact hide (by simpa using this)
            go_wp2
            go_ret
            exact ⟨ret_int (by rw [hV2.out, ← S2.out, EM.out, E0.out]; simp [rv]), GT1.out.trans (NX.out _)⟩
          go_wp2_with fail
          refine (K1 _).out.mono ?_
          rintro e w' ⟨rfl, rfl⟩
          clear K1
          cases v1
          · have S2 : Hid (false = allK (rknP kv) 0 nk) := by have := S'.out; exact hide (by simpa using this)
            go_wp2
            go_ret
            exact ⟨ret_int (by rw [hV2.out, ← S2.out, EM.out, E0.out]; simp [rv]), GT1.out.trans (NX.out _)⟩
          by_cases l2 : x2 < -1000
          · have S' : Hid ((false) = allK (rknP kv) 0 nk) := by have := S'.out; rw [show decide (-1000 ≤ x2 ∧ x2 ≤ 1000) = false by simp; omega] at this; exact hide (by simpa using this)
            have S2 : Hid (false = allK (rknP kv) 0 nk) := by have := S'.out; exact hide (by simpa using this)
            go_wp2
            go_ret
            exact ⟨ret_int (by rw [hV2.out, ← S2.out, EM.out, E0.out]; simp [rv]), GT1.out.trans (NX.out _)⟩
          by_cases l3 : 1000 < x2
          · have S' : Hid ((false) = allK (rknP kv) 0 nk) := by have := S'.out; rw [show decide (-1000 ≤ x2 ∧ x2 ≤ 1000) = false by simp; omega] at this; exact hide (by simpa using this)
            have S2 : Hid (false = allK (rknP kv) 0 nk) := by have := S'.out; exact hide (by simpa using this)
            go_wp2
            go_ret
            exact ⟨ret_int (by rw [hV2.out, ← S2.out, EM.out, E0.out]; simp [rv]), GT1.out.trans (NX.out _)⟩
          have S' := hide S'.out
          rw [show decide (-1000 ≤ x2 ∧ x2 ≤ 1000) = true by simp; omega] at S'
          have S2 : Hid (allK (rknP kv) (k + 1) (nk - (k + 1)) = allK (rknP kv) 0 nk) := by have := S'.out; exact hide (by simpa using this)
          clear S'
          go_wp2
          go_roundg (nk - k)
          case measure => omega
          case rel => exact ⟨k + 1, by go_num, by omega, by omega, NX.out _, S2⟩
        · have hltz : ¬ (k : Int) < (nk : Int) := by omega
          have E1 : Hid (allK (rknP kv) 0 nk = true) := by
            have := S.out
            rw [show nk - k = 0 by omega, allK] at this
            exact this.symm
          have GX2 := hide (GX1.out.trans G.out)
          have GT2 := hide (GT1.out.trans G.out)
          clear S G BB hk hg
          go_wp2
          clear bx hltz hlt
          have S0 : Hid (allK (rlgQ lv) 0 (nl - 0) = allK (rlgQ lv) 0 nl) := rfl
          go_loopg [7] (nl + 1) (fun gh vk wr => ∃ (k : Nat), vk = .int .i64 (k : Int) ∧ k ≤ nl ∧ nl - k < gh ∧ Hid (Grew wo1 wr) ∧ Hid (allK (rlgQ lv) k (nl - k) = allK (rlgQ lv) 0 nl))
          case atStart => exact ⟨0, by go_num, by omega, by omega, Grew.refl _, S0⟩
          case round =>
            clear S0
            obtain ⟨wo2, rfl⟩ : ∃ wo : World, wo = wr := ⟨_, rfl⟩
            obtain ⟨k, rfl, hk, hg, G, S⟩ := hrel
            have BB := hide (B0.out.grew (GX2.out.trans G.out))
            have bx := BB.out.cell 7 rfl
            by_cases hlt : k < nl
            · have hltz : (k : Int) < (nl : Int) := by omega
              obtain ⟨b, off, rfl, hb, hc⟩ := (HL.out.grew (GT2.out.trans G.out)) (by omega)
              have c0 : wo2.cell? ⟨b, off + k * 4, none⟩ = some (.int .i32 (lv k).a) := hc k hlt 0 (by decide)
              have c1 : wo2.cell? ⟨b, off + k * 4 + 1, none⟩ = some (.int .i32 (lv k).b) := hc k hlt 1 (by decide)
              have c2 : wo2.cell? ⟨b, off + k * 4 + 2, none⟩ = some (.int .i64 (lv k).g) := hc k hlt 2 (by decide)
              have c3 : wo2.cell? ⟨b, off + k * 4 + 3, none⟩ = some (.int .i64 (lv k).w) := hc k hlt 3 (by decide)
              have S' : Hid (((runeB (lv k).a && (runeB (lv k).b && (decide (1114112 ≤ (lv k).g ∧ (lv k).g ≤ 2097151) && lenB (lv k).w))) && allK (rlgQ lv) (k + 1) (nl - (k + 1))) = allK (rlgQ lv) 0 nl) := by
                have := S.out
                rwa [show nl - k = nl - (k + 1) + 1 by omega, allK] at this
              have NX : Hid (∀ o, Grew wo1 (wo2.alloc o)) := fun o => G.out.alloc o
              clear hc S hb BB
              generalize (lv k).a = x0 at *
              generalize (lv k).b = x1 at *
              generalize (lv k).g = x2 at *
              generalize (lv k).w = x3 at *
              have K0 := fun W => hide (rvalid_any x0 W)
              generalize runeB x0 = v0 at *
              have K1 := fun W => hide (rvalid_any x1 W)
              generalize runeB x1 = v1 at *
              have K4 := fun W => hide (rmetric_any x3 W)
              generalize lenB x3 = v4 at *
              go_wp2_with fail
              refine (K0 _).out.mono ?_
              rintro e w' ⟨rfl, rfl⟩
              clear K0
              cases v0
              · have S2 : Hid (false = allK (rlgQ lv) 0 nl) := by have := S'.out; exact hide (by simpa using this)
                go_wp2
                go_ret
                exact ⟨ret_int (by rw [hV2.out, ← S2.out, EM.out, E0.out, E1.out]; simp [rv]), GT2.out.trans (NX.out _)⟩
              go_wp2_with fail
              refine (K1 _).out.mono ?_
              rintro e w' ⟨rfl, rfl⟩
              clear K1
              cases v1
              · have S2 : Hid (false = allK (rlgQ lv) 0 nl) := by have := S'.out; exact hide (by simpa using this)
                go_wp2
                go_ret
                exact ⟨ret_int (by rw [hV2.out, ← S2.out, EM.out, E0.out, E1.out]; simp [rv]), GT2.out.trans (NX.out _)⟩
              by_cases l2 : x2 < 1114112
              · have S' : Hid ((false) = allK (rlgQ lv) 0 nl) := by have := S'.out; rw [show decide (1114112 ≤ x2 ∧ x2 ≤ 2097151) = false by simp; omega] at this; exact hide (by simpa using this)
                have S2 : Hid (false = allK (rlgQ lv) 0 nl) := by have := S'.out; exact hide (by simpa using this)
                go_wp2
                go_ret
                exact ⟨ret_int (by rw [hV2.out, ← S2.out, EM.out, E0.out, E1.out]; simp [rv]), GT2.out.trans (NX.out _)⟩
              by_cases l3 : 2097151 < x2
              · have S' : Hid ((false) = allK (rlgQ lv) 0 nl) := by have := S'.out; rw [show decide (1114112 ≤ x2 ∧ x2 ≤ 2097151) = false by simp; omega] at this; exact hide (by simpa using this)
                have S2 : Hid (false = allK (rlgQ lv) 0 nl) := by have := S'.out; exact hide (by simpa using this)
                go_wp2
                go_ret
                exact ⟨ret_int (by rw [hV2.out, ← S2.out, EM.out, E0.out, E1.out]; simp [rv]), GT2.out.trans (NX.out _)⟩
              have S' := hide S'.out
              rw [show decide (1114112 ≤ x2 ∧ x2 ≤ 2097151) = true by simp; omega] at S'
              go_wp2_with fail
              refine (K4 _).out.mono ?_
              rintro e w' ⟨rfl, rfl⟩
              clear K4
              cases v4
              · have S2 : Hid (false = allK (rlgQ lv) 0 nl) := by have := S'.out; exact hide (by simpa using this)
                go_wp2
                go_ret
                exact ⟨ret_int (by rw [hV2.out, ← S2.out, EM.out, E0.out, E1.out]; simp [rv]), GT2.out.trans (NX.out _)⟩
              have S2 : Hid (allK (rlgQ lv) (k + 1) (nl - (k + 1)) = allK (rlgQ lv) 0 nl) := by have := S'.out; exact hide (by simpa using this)
              clear S'
              go_wp2
              go_roundg (nl - k)
              case measure => omega
              case rel => exact ⟨k + 1, by go_num, by omega, by omega, NX.out _, S2⟩
            · have hltz : ¬ (k : Int) < (nl : Int) := by omega
              have E2 : Hid (allK (rlgQ lv) 0 nl = true) := by
                have := S.out
                rw [show nl - k = 0 by omega, allK] at this
                exact this.symm
              have GX3 := hide (GX2.out.trans G.out)
              have GT3 := hide (GT2.out.trans G.out)
              clear S G BB hk hg
              go_wp2
              clear bx hltz hlt
              go_loopg [9] (na + 1) (fun gh vk wr => ∃ (k : Nat), vk = .int .i64 (k : Int) ∧ (k ≤ na ∨ k = 1) ∧ na - k < gh ∧ 0 ≤ k ∧ Hid (Grew wo2 wr) ∧ Hid (allK (rloP av) k (na - k) = allK (rloP av) 0 na))
              case atStart => exact ⟨0, by go_num, by omega, by omega, by omega, Grew.refl _, rfl⟩
              case round =>
                obtain ⟨wo3, rfl⟩ : ∃ wo : World, wo = wr := ⟨_, rfl⟩
                obtain ⟨k, rfl, hk, hg, hk1, G, S⟩ := hrel
                have BB := hide (B0.out.grew (GX3.out.trans G.out))
                have bx := BB.out.cell 5 rfl
                by_cases hlt : k < na
                · have hltz : (k : Int) < (na : Int) := by omega
                  obtain ⟨b, off, rfl, hb, hc⟩ := (HA.out.grew (GT3.out.trans G.out)) (by omega)
                  have hgr : Hid (∀ q os, Grew wo3 (grow (wo3.drewN q) os)) := fun q os => ((Grew.refl wo3).drewN q).grow os
                  have hcc : Hid (∀ i, i < na → ∀ j, j < 3 → ∀ q os, (grow (wo3.drewN q) os).cell? ⟨b, off + i * 3 + j, none⟩ = some (adC av i j)) := fun i hi j hj q os => ((hgr.out q os).1.cell (p := ⟨b, off + i * 3 + j, none⟩) hb).trans (hc i hi j hj)
                  have gx := fun q os => (Blk.grow BB.out q os).cell 5 rfl
                  have GW := hide G.out
                  have h0k : (0 : Int) ≤ (k : Int) := by omega
                  have d0 : wo3.cell? ⟨b, off + k * 3, none⟩ = some (.int .i32 (av k).f) := hc k hlt 0 (by decide)
                  have d1 : wo3.cell? ⟨b, off + k * 3 + 1, none⟩ = some (.int .i32 (av k).t) := hc k hlt 1 (by decide)
                  have S' : Hid (((decide ((av k).f ≤ (av k).t) && (k == 0 || decide ((av (k - 1)).t < (av k).f))) && allK (rloP av) (k + 1) (na - (k + 1))) = allK (rloP av) 0 na) := by
                    have := S.out
                    rwa [show na - k = na - (k + 1) + 1 by omega, allK] at this
                  by_cases hx : (av k).t < (av k).f
                  · have S2 : Hid (false = allK (rloP av) 0 na) := by have := S'.out; rw [show decide ((av k).f ≤ (av k).t) = false by simp; omega] at this; exact hide (by simpa using this)
                    clear S' hc hcc hgr S G hb gx
                    generalize (av k).f = x0 at *
                    generalize (av k).t = x1 at *
                    have dh : decide (x1 < x0) = true := decide_eq_true hx
                    go_wp2
                    go_quiet (fail)
                    have NX := hide (GW.out.drewN nq)
                    go_wp2
                    go_ret
                    exact ⟨ret_int (by rw [hV2.out, ← S2.out, EM.out, E0.out, E1.out, E2.out]; simp [rv]), GT3.out.trans NX.out⟩
                  by_cases hk0 : k = 0
                  · subst hk0
                    simp only [Nat.zero_mul, Nat.add_zero] at d0 d1
                    have S2 : Hid (allK (rloP av) (0 + 1) (na - (0 + 1)) = allK (rloP av) 0 na) := by have := S'.out; rw [show decide ((av 0).f ≤ (av 0).t) = true by simp; omega] at this; exact hide (by simpa using this)
                    clear S' hc hcc hgr S G hb gx
                    generalize (av 0).f = x0 at *
                    generalize (av 0).t = x1 at *
                    have dh : decide (x1 < x0) = false := decide_eq_false hx
                    go_wp2
                    go_quiet (fail)
                    have NX := hide (GW.out.drewN nq)
                    go_wp2
                    go_roundg (na - 0)
                    case measure => omega
                    case rel => exact ⟨0 + 1, by go_num, by omega, by omega, by omega, NX.out, S2⟩
                  obtain ⟨m, rfl⟩ : ∃ m, k = m + 1 := ⟨k - 1, by omega⟩
                  have c1 : wo3.cell? ⟨b, off + m * 3 + 1, none⟩ = some (.int .i32 (av m).t) := hc m (by omega) 1 (by decide)
                  have S' : Hid (((decide ((av (m + 1)).f ≤ (av (m + 1)).t) && (false || decide ((av m).t < (av (m + 1)).f))) && allK (rloP av) (m + 1 + 1) (na - (m + 1 + 1))) = allK (rloP av) 0 na) := S'.out
                  rw [show decide ((av (m + 1)).f ≤ (av (m + 1)).t) = true by simp; omega] at S'
                  have hm0 : (0 : Int) ≤ (m : Int) := by omega
                  have hmn : (m : Int) < (na : Int) := by omega
                  have hm1 : (0 : Int) ≤ (m : Int) + 1 := by omega
                  have hltz1 : (m : Int) + 1 < (na : Int) := by omega
                  have hmp : (0 : Int) < (m : Int) + 1 := by omega
                  have wm : IntKind.i64.wrap (m : Int) = (m : Int) := wr (by omega) (by omega)
                  clear hc hcc hgr S G hb hk0 gx
                  generalize (av (m + 1)).f = x0 at *
                  generalize (av (m + 1)).t = x1 at *
                  generalize (av m).t = y1 at *
                  have dh : decide (x1 < x0) = false := decide_eq_false hx
                  have dmp : decide ((0 : Int) < (m : Int) + 1) = true := decide_eq_true hmp
                  by_cases hy : x0 ≤ y1
                  · have S2 : Hid (false = allK (rloP av) 0 na) := by have := S'.out; rw [show decide (y1 < x0) = false by simp; omega] at this; exact hide (by simpa using this)
                    clear S'
                    have dy : decide (x0 ≤ y1) = true := decide_eq_true hy
                    go_wp2
                    go_quiet (fail)
                    have NX := hide (GW.out.drewN nq)
                    go_wp2
                    go_ret
                    exact ⟨ret_int (by rw [hV2.out, ← S2.out, EM.out, E0.out, E1.out, E2.out]; simp [rv]), GT3.out.trans NX.out⟩
                  have S2 : Hid (allK (rloP av) (m + 1 + 1) (na - (m + 1 + 1)) = allK (rloP av) 0 na) := by have := S'.out; rw [show decide (y1 < x0) = true by simp; omega] at this; exact hide (by simpa using this)
                  clear S'
                  have dy : decide (x0 ≤ y1) = false := decide_eq_false hy
                  go_wp2
                  go_quiet (fail)
                  have NX := hide (GW.out.drewN nq)
                  go_wp2
                  go_roundg (na - (m + 1))
                  case measure => omega
                  case rel => exact ⟨m + 1 + 1, by go_num, by omega, by omega, by omega, NX.out, S2⟩
                · have hltz : ¬ (k : Int) < (na : Int) := by omega
                  have E3 : Hid (allK (rloP av) 0 na = true) := by
                    have := S.out
                    rw [show na - k = 0 by omega, allK] at this
                    exact this.symm
                  have GX4 := hide (GX3.out.trans G.out)
                  have GT4 := hide (GT3.out.trans G.out)
                  clear S G BB hk hg
                  go_wp2
                  clear bx hltz hlt
                  go_loopg [10] (nk + 1) (fun gh vk wr => ∃ (k : Nat), vk = .int .i64 (k : Int) ∧ (k ≤ nk ∨ k = 1) ∧ nk - k < gh ∧ 1 ≤ k ∧ Hid (Grew wo3 wr) ∧ Hid (allK (knP kv) k (nk - k) = allK (knP kv) 1 (nk - 1)))
                  case atStart => exact ⟨1, by go_num, by omega, by omega, by omega, Grew.refl _, rfl⟩
                  case round =>
                    obtain ⟨wo4, rfl⟩ : ∃ wo : World, wo = wr := ⟨_, rfl⟩
                    obtain ⟨k, rfl, hk, hg, hk1, G, S⟩ := hrel
                    have BB := hide (B0.out.grew (GX4.out.trans G.out))
                    have bx := BB.out.cell 6 rfl
                    by_cases hlt : k < nk
                    · have hltz : (k : Int) < (nk : Int) := by omega
                      obtain ⟨b, off, rfl, hb, hc⟩ := (HK.out.grew (GT4.out.trans G.out)) (by omega)
                      have hgr : Hid (∀ q os, Grew wo4 (grow (wo4.drewN q) os)) := fun q os => ((Grew.refl wo4).drewN q).grow os
                      have hcc : Hid (∀ i, i < nk → ∀ j, j < 3 → ∀ q os, (grow (wo4.drewN q) os).cell? ⟨b, off + i * 3 + j, none⟩ = some (knC kv i j)) := fun i hi j hj q os => ((hgr.out q os).1.cell (p := ⟨b, off + i * 3 + j, none⟩) hb).trans (hc i hi j hj)
                      have gx := fun q os => (Blk.grow BB.out q os).cell 6 rfl
                      have GW := hide G.out
                      obtain ⟨m, rfl⟩ : ∃ m, k = m + 1 := ⟨k - 1, by omega⟩
                      have hm0 : (0 : Int) ≤ (m : Int) := by omega
                      have hmn : (m : Int) < (nk : Int) := by omega
                      have hm1 : (0 : Int) ≤ (m : Int) + 1 := by omega
                      have hltz1 : (m : Int) + 1 < (nk : Int) := by omega
                      have wm : IntKind.i64.wrap (m : Int) = (m : Int) := wr (by omega) (by omega)
                      have c0 : ∀ q os, (grow (wo4.drewN q) os).cell? ⟨b, off + m * 3, none⟩ = some (.int .i32 (kv m).a) := hcc.out m (by omega) 0 (by decide)
                      have d0 : ∀ q os, (grow (wo4.drewN q) os).cell? ⟨b, off + (m + 1) * 3, none⟩ = some (.int .i32 (kv (m + 1)).a) := hcc.out (m + 1) hlt 0 (by decide)
                      have c1 : ∀ q os, (grow (wo4.drewN q) os).cell? ⟨b, off + m * 3 + 1, none⟩ = some (.int .i32 (kv m).b) := hcc.out m (by omega) 1 (by decide)
                      have d1 : ∀ q os, (grow (wo4.drewN q) os).cell? ⟨b, off + (m + 1) * 3 + 1, none⟩ = some (.int .i32 (kv (m + 1)).b) := hcc.out (m + 1) hlt 1 (by decide)
                      have KC : ∀ W, Hid (Calls Try.prog 41 #[.int .i32 (kv m).a, .int .i32 (kv m).b, .int .i32 (kv (m + 1)).a, .int .i32 (kv (m + 1)).b] W fun e w' => e = .returned (.bool (knP kv (m + 1))) ∧ Grew W w') := fun W => (rascending_any _ _ _ _ W).mono fun _ _ h => ⟨h.1, h.2 ▸ Grew.refl _⟩
                      have S' : Hid ((knP kv (m + 1) && allK (knP kv) (m + 1 + 1) (nk - (m + 1 + 1))) = allK (knP kv) 1 (nk - 1)) := by
                        have := S.out
                        rwa [show nk - (m + 1) = nk - (m + 1 + 1) + 1 by omega, allK] at this
                      clear hc hcc hgr S G hb
                      generalize knP kv (m + 1) = v at *
                      generalize (kv m).a = x0 at *
                      generalize (kv (m + 1)).a = y0 at *
                      generalize (kv m).b = x1 at *
                      generalize (kv (m + 1)).b = y1 at *
                      go_wp2
                      refine wp_region_calm (by kernel_rfl) (by kernel_rfl) ?_
                      repeat (first | (refine lex_skip rfl (by rfl) ?_) | (refine lex_calm rfl (by rfl) (fun K hK => ?_); go_simp; first | (refine hK _ ?_; clear hK K) | (apply Exists.intro; refine ⟨fun _ _ => ?_, hK _ ?_⟩; (with_reducible exact (KC _).out); clear hK K)))
                      refine lex_nil ?_
                      intro w9 G9
                      have NX := hide (GW.out.trans G9)
                      clear G9 gx c0 c1 d0 d1 KC
                      cases v
                      · have S2 : Hid (false = allK (knP kv) 1 (nk - 1)) := S'.out
                        go_wp2
                        go_ret
                        exact ⟨ret_int (by rw [hV2.out, ← S2.out, EM.out, E0.out, E1.out, E2.out, E3.out]; simp [rv]), GT4.out.trans NX.out⟩
                      have S2 : Hid (allK (knP kv) (m + 1 + 1) (nk - (m + 1 + 1)) = allK (knP kv) 1 (nk - 1)) := S'.out
                      clear S'
                      go_wp2
                      go_roundg (nk - (m + 1))
                      case measure => omega
                      case rel => exact ⟨m + 1 + 1, by go_num, by omega, by omega, by omega, NX.out, S2⟩
                    · have hltz : ¬ (k : Int) < (nk : Int) := by omega
                      have E4 : Hid (allK (knP kv) 1 (nk - 1) = true) := by
                        have := S.out
                        rw [show nk - k = 0 by omega, allK] at this
                        exact this.symm
                      have GX5 := hide (GX4.out.trans G.out)
                      have GT5 := hide (GT4.out.trans G.out)
                      clear S G BB hk hg
                      go_wp2
                      clear bx hltz hlt
                      go_loopg [11] (nl + 1) (fun gh vk wr => ∃ (k : Nat), vk = .int .i64 (k : Int) ∧ (k ≤ nl ∨ k = 1) ∧ nl - k < gh ∧ 1 ≤ k ∧ Hid (Grew wo4 wr) ∧ Hid (allK (lgP lv) k (nl - k) = allK (lgP lv) 1 (nl - 1)))
                      case atStart => exact ⟨1, by go_num, by omega, by omega, by omega, Grew.refl _, rfl⟩
                      case round =>
                        obtain ⟨wo5, rfl⟩ : ∃ wo : World, wo = wr := ⟨_, rfl⟩
                        obtain ⟨k, rfl, hk, hg, hk1, G, S⟩ := hrel
                        have BB := hide (B0.out.grew (GX5.out.trans G.out))
                        have bx := BB.out.cell 7 rfl
                        by_cases hlt : k < nl
                        · have hltz : (k : Int) < (nl : Int) := by omega
                          obtain ⟨b, off, rfl, hb, hc⟩ := (HL.out.grew (GT5.out.trans G.out)) (by omega)
                          have hgr : Hid (∀ q os, Grew wo5 (grow (wo5.drewN q) os)) := fun q os => ((Grew.refl wo5).drewN q).grow os
                          have hcc : Hid (∀ i, i < nl → ∀ j, j < 4 → ∀ q os, (grow (wo5.drewN q) os).cell? ⟨b, off + i * 4 + j, none⟩ = some (lgC lv i j)) := fun i hi j hj q os => ((hgr.out q os).1.cell (p := ⟨b, off + i * 4 + j, none⟩) hb).trans (hc i hi j hj)
                          have gx := fun q os => (Blk.grow BB.out q os).cell 7 rfl
                          have GW := hide G.out
                          obtain ⟨m, rfl⟩ : ∃ m, k = m + 1 := ⟨k - 1, by omega⟩
                          have hm0 : (0 : Int) ≤ (m : Int) := by omega
                          have hmn : (m : Int) < (nl : Int) := by omega
                          have hm1 : (0 : Int) ≤ (m : Int) + 1 := by omega
                          have hltz1 : (m : Int) + 1 < (nl : Int) := by omega
                          have wm : IntKind.i64.wrap (m : Int) = (m : Int) := wr (by omega) (by omega)
                          have c0 : ∀ q os, (grow (wo5.drewN q) os).cell? ⟨b, off + m * 4, none⟩ = some (.int .i32 (lv m).a) := hcc.out m (by omega) 0 (by decide)
                          have d0 : ∀ q os, (grow (wo5.drewN q) os).cell? ⟨b, off + (m + 1) * 4, none⟩ = some (.int .i32 (lv (m + 1)).a) := hcc.out (m + 1) hlt 0 (by decide)
                          have c1 : ∀ q os, (grow (wo5.drewN q) os).cell? ⟨b, off + m * 4 + 1, none⟩ = some (.int .i32 (lv m).b) := hcc.out m (by omega) 1 (by decide)
                          have d1 : ∀ q os, (grow (wo5.drewN q) os).cell? ⟨b, off + (m + 1) * 4 + 1, none⟩ = some (.int .i32 (lv (m + 1)).b) := hcc.out (m + 1) hlt 1 (by decide)
                          have KC : ∀ W, Hid (Calls Try.prog 41 #[.int .i32 (lv m).a, .int .i32 (lv m).b, .int .i32 (lv (m + 1)).a, .int .i32 (lv (m + 1)).b] W fun e w' => e = .returned (.bool (lgP lv (m + 1))) ∧ Grew W w') := fun W => (rascending_any _ _ _ _ W).mono fun _ _ h => ⟨h.1, h.2 ▸ Grew.refl _⟩
                          have S' : Hid ((lgP lv (m + 1) && allK (lgP lv) (m + 1 + 1) (nl - (m + 1 + 1))) = allK (lgP lv) 1 (nl - 1)) := by
                            have := S.out
                            rwa [show nl - (m + 1) = nl - (m + 1 + 1) + 1 by omega, allK] at this
                          clear hc hcc hgr S G hb
                          generalize lgP lv (m + 1) = v at *
                          generalize (lv m).a = x0 at *
                          generalize (lv (m + 1)).a = y0 at *
                          generalize (lv m).b = x1 at *
                          generalize (lv (m + 1)).b = y1 at *
                          go_wp2
                          refine wp_region_calm (by kernel_rfl) (by kernel_rfl) ?_
                          repeat (first | (refine lex_skip rfl (by rfl) ?_) | (refine lex_calm rfl (by rfl) (fun K hK => ?_); go_simp; first | (refine hK _ ?_; clear hK K) | (apply Exists.intro; refine ⟨fun _ _ => ?_, hK _ ?_⟩; (with_reducible exact (KC _).out); clear hK K)))
                          refine lex_nil ?_
                          intro w9 G9
                          have NX := hide (GW.out.trans G9)
                          clear G9 gx c0 c1 d0 d1 KC
                          cases v
                          · have S2 : Hid (false = allK (lgP lv) 1 (nl - 1)) := S'.out
                            go_wp2
                            go_ret
                            exact ⟨ret_int (by rw [hV2.out, ← S2.out, EM.out, E0.out, E1.out, E2.out, E3.out, E4.out]; simp [rv]), GT5.out.trans NX.out⟩
                          have S2 : Hid (allK (lgP lv) (m + 1 + 1) (nl - (m + 1 + 1)) = allK (lgP lv) 1 (nl - 1)) := S'.out
                          clear S'
                          go_wp2
                          go_roundg (nl - (m + 1))
                          case measure => omega
                          case rel => exact ⟨m + 1 + 1, by go_num, by omega, by omega, by omega, NX.out, S2⟩
                        · have hltz : ¬ (k : Int) < (nl : Int) := by omega
                          have E5 : Hid (allK (lgP lv) 1 (nl - 1) = true) := by
                            have := S.out
                            rw [show nl - k = 0 by omega, allK] at this
                            exact this.symm
                          have GX6 := hide (GX5.out.trans G.out)
                          have GT6 := hide (GT5.out.trans G.out)
                          clear S G BB hk hg
                          go_wp2
                          go_ret
                          exact ⟨ret_int (by rw [hV2.out, EM.out, E0.out, E1.out, E2.out, E3.out, E4.out, E5.out]; rfl), GT6.out⟩
end Go.Proofs.Ytfiaongnogiegaa
