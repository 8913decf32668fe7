/- What the references good, Scaled, Ascent, Descent and Height return, for every font whose ligatures are of runes. -/
import Derived.Test.YtfiaongnogiegaaFoP
namespace Go.Proofs.Ytfiaongnogiegaa
open Go.RowKit Go.Sort
set_option linter.unusedVariables false
set_option linter.unusedSimpArgs false

set_option maxRecDepth 100000 in
set_option maxHeartbeats 8000000 in
theorem rgood_any (F : Fn) (s : Sl) (size : Int) (w : World) (H : FAt w F s) (hL : LR F) :
    Calls Try.prog 42 #[F.v s, .int .i64 size] w fun e w' => e = .returned (.bool (useB F size)) ∧ Grew w w' := by
  have KV : Hid (∀ W, Grew w W → Calls Try.prog 20 #[F.v s] W fun e w' => e = .returned (.int .i64 (vldF F)) ∧ Grew W w') := fun W gw => rValidate_any F s W (H.grew gw) hL
  obtain ⟨R, hR⟩ : ∃ R, R = useB F size := ⟨_, rfl⟩
  rw [← hR]
  unfold useB at hR
  replace hR := hide hR
  generalize vldF F = x at *
  clear H hL
  obtain ⟨u, a, d, g, df, na, av, nk, kv, nl, lv⟩ := F
  obtain ⟨pa, ca, pk, ck, pl, cl⟩ := s
  dsimp only [Fn.v] at *
  obtain ⟨b0, hb0⟩ : ∃ b0, b0 = w.heap.size := ⟨_, rfl⟩
  have G0 : Hid (∀ o, Grew w (w.alloc o)) := fun o => (Grew.refl w).alloc o
  have hR : Hid (R = (decide (1 ≤ size ∧ size ≤ 1000) && (x == 0))) := hR.out
  go_enter Try.func42, Try.ntmps42
  go_wp2_with fail
  have B0 : Hid (Blk (w.alloc (.cells [.int .i64 u, .int .i64 a, .int .i64 d, .int .i64 g, .int .i64 df, .slice pa na ca, .slice pk nk ck, .slice pl nl cl].toArray 26)) b0 26 [.int .i64 u, .int .i64 a, .int .i64 d, .int .i64 g, .int .i64 df, .slice pa na ca, .slice pk nk ck, .slice pl nl cl]) := Blk.new hb0
  rw [← hb0]
  have G1 := hide (G0.out (.cells [.int .i64 u, .int .i64 a, .int .i64 d, .int .i64 g, .int .i64 df, .slice pa na ca, .slice pk nk ck, .slice pl nl cl].toArray 26))
  have hw : Hid (w.heap.size ≤ b0) := Nat.le_of_eq hb0.symm
  clear G0 hb0
  generalize (w.alloc (.cells [.int .i64 u, .int .i64 a, .int .i64 d, .int .i64 g, .int .i64 df, .slice pa na ca, .slice pk nk ck, .slice pl nl cl].toArray 26)) = w1 at *
  refine (KV.out _ G1.out).mono ?_
  rintro e w3 ⟨rfl, G3⟩
  have GT := hide (G1.out.trans G3)
  clear G3 KV B0 G1
  by_cases hx : x = 0
  · have e0 : (x == 0) = true := by simpa using hx
    have hR : Hid (R = decide (1 ≤ size ∧ size ≤ 1000)) := by have := hR.out; rwa [e0, Bool.and_true] at this
    replace hx := hide hx
    by_cases h1 : 1 ≤ size
    · by_cases h2 : size ≤ 1000
      · have E : Hid (R = true) := by have := hR.out; rw [this]; exact decide_eq_true ⟨h1, h2⟩
        go_wp2
        go_ret
        exact ⟨ret_bool (by rw [E.out]; try first | rfl | (simp; omega)), GT.out⟩
      · have E : Hid (R = false) := by have := hR.out; rw [this]; exact decide_eq_false (fun h => h2 h.2)
        go_wp2
        go_ret
        exact ⟨ret_bool (by rw [E.out]; try first | rfl | (simp; omega)), GT.out⟩
    · have E : Hid (R = false) := by have := hR.out; rw [this]; exact decide_eq_false (fun h => h1 h.1)
      go_wp2
      go_ret
      exact ⟨ret_bool (by rw [E.out]; try first | rfl | (simp; omega)), GT.out⟩
  · have e0 : (x == 0) = false := by simpa using hx
    have E : Hid (R = false) := by have := hR.out; rw [this, e0, Bool.and_false]; exact hide rfl
    go_wp2
    go_ret
    exact ⟨ret_bool (by rw [E.out]; try first | rfl | (simp; omega)), GT.out⟩

set_option maxHeartbeats 4000000 in
theorem rScaled_any (F : Fn) (s : Sl) (size x : Int) (w : World) (hu : 16 ≤ F.u ∧ F.u ≤ 4096) (hs : 1 ≤ size ∧ size ≤ 1000) (hx : -4096 ≤ x ∧ x ≤ 4096) :
    Calls Try.prog 44 #[F.v s, .int .i64 size, .int .i64 x] w fun e w' => e = .returned (.int .i64 (scF F size x)) ∧ Grew w w' := by
  obtain ⟨u, a, d, g, df, na, av, nk, kv, nl, lv⟩ := F
  obtain ⟨pa, ca, pk, ck, pl, cl⟩ := s
  dsimp only [Fn.v] at *
  obtain ⟨b0, hb0⟩ : ∃ b0, b0 = w.heap.size := ⟨_, rfl⟩
  have G0 : Hid (∀ o, Grew w (w.alloc o)) := fun o => (Grew.refl w).alloc o
  have m1 : x * size ≤ 4096000 := by
    have h1 : x * size ≤ 4096 * size := Int.mul_le_mul_of_nonneg_right hx.2 (by omega)
    have h2 : 4096 * size ≤ 4096 * 1000 := Int.mul_le_mul_of_nonneg_left hs.2 (by decide)
    omega
  have m2 : -4096000 ≤ x * size := by
    have h1 : -4096 * size ≤ x * size := Int.mul_le_mul_of_nonneg_right hx.1 (by omega)
    have h2 : -4096 * 1000 ≤ -4096 * size := Int.mul_le_mul_of_nonpos_left (by decide) hs.2
    omega
  have wm : IntKind.i64.wrap (x * size) = x * size := wr (by omega) (by omega)
  have KR := fun W => hide (rRound_in (x * size) u W ⟨by omega, ⟨by omega, by omega⟩, by omega, by omega⟩)
  have e0 : rnd (x * size) u = scF ⟨u, a, d, g, df, na, av, nk, kv, nl, lv⟩ size x := rfl
  rw [e0] at KR
  generalize scF ⟨u, a, d, g, df, na, av, nk, kv, nl, lv⟩ size x = y at *
  clear m1 m2 hu hs hx e0
  go_enter Try.func44, Try.ntmps44
  go_wp2_with fail
  have B0 : Hid (Blk (w.alloc (.cells [.int .i64 u, .int .i64 a, .int .i64 d, .int .i64 g, .int .i64 df, .slice pa na ca, .slice pk nk ck, .slice pl nl cl].toArray 26)) b0 26 [.int .i64 u, .int .i64 a, .int .i64 d, .int .i64 g, .int .i64 df, .slice pa na ca, .slice pk nk ck, .slice pl nl cl]) := Blk.new hb0
  rw [← hb0]
  have G1 := hide (G0.out (.cells [.int .i64 u, .int .i64 a, .int .i64 d, .int .i64 g, .int .i64 df, .slice pa na ca, .slice pk nk ck, .slice pl nl cl].toArray 26))
  have hw : Hid (w.heap.size ≤ b0) := Nat.le_of_eq hb0.symm
  clear G0 hb0
  generalize (w.alloc (.cells [.int .i64 u, .int .i64 a, .int .i64 d, .int .i64 g, .int .i64 df, .slice pa na ca, .slice pk nk ck, .slice pl nl cl].toArray 26)) = w1 at *
  refine (KR _).out.mono ?_
  rintro e w2 ⟨rfl, rfl⟩
  go_wp2
  go_ret
  exact ⟨rfl, G1.out⟩

set_option maxRecDepth 100000 in
set_option maxHeartbeats 8000000 in
theorem rAscent_any (F : Fn) (s : Sl) (size : Int) (w : World) (H : FAt w F s) (hL : LR F) :
    Calls Try.prog 24 #[F.v s, .int .i64 size] w fun e w' => e = .returned (.int .i64 (acF F size)) ∧ Grew w w' := by
  have KU := fun W => fun (gw : Grew w W) => hide (rgood_any F s size W (H.grew gw) hL)
  have KS : useB F size = true → Hid (∀ x W, 0 ≤ x ∧ x ≤ 4096 → Calls Try.prog 44 #[F.v s, .int .i64 size, .int .i64 x] W fun e w' => e = .returned (.int .i64 (scF F size x)) ∧ Grew W w') := fun h x W hx => by
    obtain ⟨ok, hs⟩ := use_bd h
    exact rScaled_any F s size x W ok.u hs (by omega)
  have KA := fun (h : useB F size = true) => fun W => hide ((KS h).out F.a W (use_bd h).1.a)
  have KD := fun (h : useB F size = true) => fun W => hide ((KS h).out F.d W (use_bd h).1.d)
  have KG := fun (h : useB F size = true) => fun W => hide ((KS h).out F.g W (use_bd h).1.g)
  clear KS
  obtain ⟨R, hR⟩ : ∃ R, R = acF F size := ⟨_, rfl⟩
  rw [← hR]
  unfold acF at hR
  unfold asF at hR
  replace hR := hide hR
  cases hv : useB F size
  · rw [hv] at hR KU
    clear KA KD KG H hL hv
    obtain ⟨u, a, d, g, df, na, av, nk, kv, nl, lv⟩ := F
    obtain ⟨pa, ca, pk, ck, pl, cl⟩ := s
    dsimp only [Fn.v] at *
    obtain ⟨b0, hb0⟩ : ∃ b0, b0 = w.heap.size := ⟨_, rfl⟩
    have G0 : Hid (∀ o, Grew w (w.alloc o)) := fun o => (Grew.refl w).alloc o
    go_enter Try.func24, Try.ntmps24
    go_wp2_with fail
    have B0 : Hid (Blk (w.alloc (.cells [.int .i64 u, .int .i64 a, .int .i64 d, .int .i64 g, .int .i64 df, .slice pa na ca, .slice pk nk ck, .slice pl nl cl].toArray 26)) b0 26 [.int .i64 u, .int .i64 a, .int .i64 d, .int .i64 g, .int .i64 df, .slice pa na ca, .slice pk nk ck, .slice pl nl cl]) := Blk.new hb0
    rw [← hb0]
    have G1 := hide (G0.out (.cells [.int .i64 u, .int .i64 a, .int .i64 d, .int .i64 g, .int .i64 df, .slice pa na ca, .slice pk nk ck, .slice pl nl cl].toArray 26))
    have hw : Hid (w.heap.size ≤ b0) := Nat.le_of_eq hb0.symm
    clear G0 hb0
    generalize (w.alloc (.cells [.int .i64 u, .int .i64 a, .int .i64 d, .int .i64 g, .int .i64 df, .slice pa na ca, .slice pk nk ck, .slice pl nl cl].toArray 26)) = w1 at *
    refine (KU _ G1.out).out.mono ?_
    rintro e w3 ⟨rfl, G3⟩
    have GT := hide (G1.out.trans G3)
    clear G3 KU
    go_wp2
    go_ret
    exact ⟨ret_int (by rw [hR.out]; rfl), GT.out⟩
  · rw [hv] at hR KU
    have KA := KA hv
    have KD := KD hv
    generalize scF F size F.a = x at *
    generalize scF F size F.d = y at *
    clear KG H hL hv
    obtain ⟨u, a, d, g, df, na, av, nk, kv, nl, lv⟩ := F
    obtain ⟨pa, ca, pk, ck, pl, cl⟩ := s
    dsimp only [Fn.v] at *
    obtain ⟨b0, hb0⟩ : ∃ b0, b0 = w.heap.size := ⟨_, rfl⟩
    have G0 : Hid (∀ o, Grew w (w.alloc o)) := fun o => (Grew.refl w).alloc o
    go_enter Try.func24, Try.ntmps24
    go_wp2_with fail
    have B0 : Hid (Blk (w.alloc (.cells [.int .i64 u, .int .i64 a, .int .i64 d, .int .i64 g, .int .i64 df, .slice pa na ca, .slice pk nk ck, .slice pl nl cl].toArray 26)) b0 26 [.int .i64 u, .int .i64 a, .int .i64 d, .int .i64 g, .int .i64 df, .slice pa na ca, .slice pk nk ck, .slice pl nl cl]) := Blk.new hb0
    rw [← hb0]
    have G1 := hide (G0.out (.cells [.int .i64 u, .int .i64 a, .int .i64 d, .int .i64 g, .int .i64 df, .slice pa na ca, .slice pk nk ck, .slice pl nl cl].toArray 26))
    have hw : Hid (w.heap.size ≤ b0) := Nat.le_of_eq hb0.symm
    clear G0 hb0
    generalize (w.alloc (.cells [.int .i64 u, .int .i64 a, .int .i64 d, .int .i64 g, .int .i64 df, .slice pa na ca, .slice pk nk ck, .slice pl nl cl].toArray 26)) = w1 at *
    refine (KU _ G1.out).out.mono ?_
    rintro e w3 ⟨rfl, G3⟩
    have B3 := hide (B0.out.grew G3)
    have GT := hide (G1.out.trans G3)
    clear G3 KU B0 G1
    have c0 := (B3.out).cell 0 rfl
    have c1 := (B3.out).cell 1 rfl
    have c2 := (B3.out).cell 2 rfl
    have c3 := (B3.out).cell 3 rfl
    have c4 := (B3.out).cell 4 rfl
    have c5 := (B3.out).cell 5 rfl
    have c6 := (B3.out).cell 6 rfl
    have c7 := (B3.out).cell 7 rfl
    go_wp2_with fail
    refine (KA _).out.mono ?_
    rintro e w4 ⟨rfl, G4⟩
    have B4 := hide (B3.out.grew G4)
    have GT4 := hide (GT.out.trans G4)
    clear G4 KA B3 GT c0 c1 c2 c3 c4 c5 c6 c7
    have hR : Hid (R = if x = 0 ∧ y = 0 then 1 else x) := hR.out
    by_cases hx : x = 0
    · subst hx
      have c0 := (B4.out).cell 0 rfl
      have c1 := (B4.out).cell 1 rfl
      have c2 := (B4.out).cell 2 rfl
      have c3 := (B4.out).cell 3 rfl
      have c4 := (B4.out).cell 4 rfl
      have c5 := (B4.out).cell 5 rfl
      have c6 := (B4.out).cell 6 rfl
      have c7 := (B4.out).cell 7 rfl
      go_wp2_with fail
      refine (KD _).out.mono ?_
      rintro e w5 ⟨rfl, G5⟩
      have GT5 := hide (GT4.out.trans G5)
      clear G5 KD
      by_cases hy : y = 0
      · have E : Hid (R = 1) := by have := hR.out; exact hide (by simpa [hy] using this)
        subst hy
        go_wp2
        go_ret
        exact ⟨ret_int (by rw [E.out]), GT5.out⟩
      · have hy' : (y == 0) = false := by simpa using hy
        have E : Hid (R = 0) := by have := hR.out; exact hide (by simpa [hy] using this)
        go_wp2
        go_ret
        exact ⟨ret_int (by rw [E.out]), GT5.out⟩
    · have hx' : (x == 0) = false := by simpa using hx
      have E : Hid (R = x) := by have := hR.out; rw [if_neg (fun h => hx h.1)] at this; exact this
      go_wp2
      go_ret
      exact ⟨ret_int (by rw [E.out]), GT4.out⟩

set_option maxRecDepth 100000 in
set_option maxHeartbeats 8000000 in
theorem rDescent_any (F : Fn) (s : Sl) (size : Int) (w : World) (H : FAt w F s) (hL : LR F) :
    Calls Try.prog 25 #[F.v s, .int .i64 size] w fun e w' => e = .returned (.int .i64 (dcF F size)) ∧ Grew w w' := by
  have KU := fun W => fun (gw : Grew w W) => hide (rgood_any F s size W (H.grew gw) hL)
  have KS : useB F size = true → Hid (∀ x W, 0 ≤ x ∧ x ≤ 4096 → Calls Try.prog 44 #[F.v s, .int .i64 size, .int .i64 x] W fun e w' => e = .returned (.int .i64 (scF F size x)) ∧ Grew W w') := fun h x W hx => by
    obtain ⟨ok, hs⟩ := use_bd h
    exact rScaled_any F s size x W ok.u hs (by omega)
  have KA := fun (h : useB F size = true) => fun W => hide ((KS h).out F.a W (use_bd h).1.a)
  have KD := fun (h : useB F size = true) => fun W => hide ((KS h).out F.d W (use_bd h).1.d)
  have KG := fun (h : useB F size = true) => fun W => hide ((KS h).out F.g W (use_bd h).1.g)
  clear KS
  obtain ⟨R, hR⟩ : ∃ R, R = dcF F size := ⟨_, rfl⟩
  rw [← hR]
  unfold dcF at hR
  replace hR := hide hR
  cases hv : useB F size
  · rw [hv] at hR KU
    clear KA KD KG H hL hv
    obtain ⟨u, a, d, g, df, na, av, nk, kv, nl, lv⟩ := F
    obtain ⟨pa, ca, pk, ck, pl, cl⟩ := s
    dsimp only [Fn.v] at *
    obtain ⟨b0, hb0⟩ : ∃ b0, b0 = w.heap.size := ⟨_, rfl⟩
    have G0 : Hid (∀ o, Grew w (w.alloc o)) := fun o => (Grew.refl w).alloc o
    go_enter Try.func25, Try.ntmps25
    go_wp2_with fail
    have B0 : Hid (Blk (w.alloc (.cells [.int .i64 u, .int .i64 a, .int .i64 d, .int .i64 g, .int .i64 df, .slice pa na ca, .slice pk nk ck, .slice pl nl cl].toArray 26)) b0 26 [.int .i64 u, .int .i64 a, .int .i64 d, .int .i64 g, .int .i64 df, .slice pa na ca, .slice pk nk ck, .slice pl nl cl]) := Blk.new hb0
    rw [← hb0]
    have G1 := hide (G0.out (.cells [.int .i64 u, .int .i64 a, .int .i64 d, .int .i64 g, .int .i64 df, .slice pa na ca, .slice pk nk ck, .slice pl nl cl].toArray 26))
    have hw : Hid (w.heap.size ≤ b0) := Nat.le_of_eq hb0.symm
    clear G0 hb0
    generalize (w.alloc (.cells [.int .i64 u, .int .i64 a, .int .i64 d, .int .i64 g, .int .i64 df, .slice pa na ca, .slice pk nk ck, .slice pl nl cl].toArray 26)) = w1 at *
    refine (KU _ G1.out).out.mono ?_
    rintro e w3 ⟨rfl, G3⟩
    have GT := hide (G1.out.trans G3)
    clear G3 KU
    go_wp2
    go_ret
    exact ⟨ret_int (by rw [hR.out]; rfl), GT.out⟩
  · rw [hv] at hR KU
    have KD := KD hv
    generalize scF F size F.d = y at *
    clear KA KG H hL hv
    obtain ⟨u, a, d, g, df, na, av, nk, kv, nl, lv⟩ := F
    obtain ⟨pa, ca, pk, ck, pl, cl⟩ := s
    dsimp only [Fn.v] at *
    obtain ⟨b0, hb0⟩ : ∃ b0, b0 = w.heap.size := ⟨_, rfl⟩
    have G0 : Hid (∀ o, Grew w (w.alloc o)) := fun o => (Grew.refl w).alloc o
    go_enter Try.func25, Try.ntmps25
    go_wp2_with fail
    have B0 : Hid (Blk (w.alloc (.cells [.int .i64 u, .int .i64 a, .int .i64 d, .int .i64 g, .int .i64 df, .slice pa na ca, .slice pk nk ck, .slice pl nl cl].toArray 26)) b0 26 [.int .i64 u, .int .i64 a, .int .i64 d, .int .i64 g, .int .i64 df, .slice pa na ca, .slice pk nk ck, .slice pl nl cl]) := Blk.new hb0
    rw [← hb0]
    have G1 := hide (G0.out (.cells [.int .i64 u, .int .i64 a, .int .i64 d, .int .i64 g, .int .i64 df, .slice pa na ca, .slice pk nk ck, .slice pl nl cl].toArray 26))
    have hw : Hid (w.heap.size ≤ b0) := Nat.le_of_eq hb0.symm
    clear G0 hb0
    generalize (w.alloc (.cells [.int .i64 u, .int .i64 a, .int .i64 d, .int .i64 g, .int .i64 df, .slice pa na ca, .slice pk nk ck, .slice pl nl cl].toArray 26)) = w1 at *
    refine (KU _ G1.out).out.mono ?_
    rintro e w3 ⟨rfl, G3⟩
    have B3 := hide (B0.out.grew G3)
    have GT := hide (G1.out.trans G3)
    clear G3 KU B0 G1
    have c0 := (B3.out).cell 0 rfl
    have c1 := (B3.out).cell 1 rfl
    have c2 := (B3.out).cell 2 rfl
    have c3 := (B3.out).cell 3 rfl
    have c4 := (B3.out).cell 4 rfl
    have c5 := (B3.out).cell 5 rfl
    have c6 := (B3.out).cell 6 rfl
    have c7 := (B3.out).cell 7 rfl
    go_wp2_with fail
    refine (KD _).out.mono ?_
    rintro e w4 ⟨rfl, G4⟩
    have GT4 := hide (GT.out.trans G4)
    clear G4 KD B3 GT c0 c1 c2 c3 c4 c5 c6 c7
    go_wp2
    go_ret
    exact ⟨ret_int (by rw [hR.out]; rfl), GT4.out⟩

set_option maxRecDepth 100000 in
set_option maxHeartbeats 8000000 in
theorem rHeight_any (F : Fn) (s : Sl) (size : Int) (w : World) (H : FAt w F s) (hL : LR F) :
    Calls Try.prog 26 #[F.v s, .int .i64 size] w fun e w' => e = .returned (.int .i64 (htF F size)) ∧ Grew w w' := by
  have KU := fun W => fun (gw : Grew w W) => hide (rgood_any F s size W (H.grew gw) hL)
  have KS : useB F size = true → Hid (∀ x W, 0 ≤ x ∧ x ≤ 4096 → Calls Try.prog 44 #[F.v s, .int .i64 size, .int .i64 x] W fun e w' => e = .returned (.int .i64 (scF F size x)) ∧ Grew W w') := fun h x W hx => by
    obtain ⟨ok, hs⟩ := use_bd h
    exact rScaled_any F s size x W ok.u hs (by omega)
  have KA := fun (h : useB F size = true) => fun W => hide ((KS h).out F.a W (use_bd h).1.a)
  have KD := fun (h : useB F size = true) => fun W => hide ((KS h).out F.d W (use_bd h).1.d)
  have KG := fun (h : useB F size = true) => fun W => hide ((KS h).out F.g W (use_bd h).1.g)
  clear KS
  have KC : ∀ W, Grew w W → Hid (Calls Try.prog 24 #[F.v s, .int .i64 size] W fun e w' => e = .returned (.int .i64 (acF F size)) ∧ Grew W w') := fun W gw => rAscent_any F s size W (H.grew gw) hL
  have KE : ∀ W, Grew w W → Hid (Calls Try.prog 25 #[F.v s, .int .i64 size] W fun e w' => e = .returned (.int .i64 (dcF F size)) ∧ Grew W w') := fun W gw => rDescent_any F s size W (H.grew gw) hL
  have BD := hide (height_bd F size)
  obtain ⟨R, hR⟩ : ∃ R, R = htF F size := ⟨_, rfl⟩
  rw [← hR]
  unfold htF at hR
  replace hR := hide hR
  cases hv : useB F size
  · rw [hv] at hR KU
    clear KA KD KG KC KE BD H hL hv
    obtain ⟨u, a, d, g, df, na, av, nk, kv, nl, lv⟩ := F
    obtain ⟨pa, ca, pk, ck, pl, cl⟩ := s
    dsimp only [Fn.v] at *
    obtain ⟨b0, hb0⟩ : ∃ b0, b0 = w.heap.size := ⟨_, rfl⟩
    have G0 : Hid (∀ o, Grew w (w.alloc o)) := fun o => (Grew.refl w).alloc o
    go_enter Try.func26, Try.ntmps26
    go_wp2_with fail
    have B0 : Hid (Blk (w.alloc (.cells [.int .i64 u, .int .i64 a, .int .i64 d, .int .i64 g, .int .i64 df, .slice pa na ca, .slice pk nk ck, .slice pl nl cl].toArray 26)) b0 26 [.int .i64 u, .int .i64 a, .int .i64 d, .int .i64 g, .int .i64 df, .slice pa na ca, .slice pk nk ck, .slice pl nl cl]) := Blk.new hb0
    rw [← hb0]
    have G1 := hide (G0.out (.cells [.int .i64 u, .int .i64 a, .int .i64 d, .int .i64 g, .int .i64 df, .slice pa na ca, .slice pk nk ck, .slice pl nl cl].toArray 26))
    have hw : Hid (w.heap.size ≤ b0) := Nat.le_of_eq hb0.symm
    clear G0 hb0
    generalize (w.alloc (.cells [.int .i64 u, .int .i64 a, .int .i64 d, .int .i64 g, .int .i64 df, .slice pa na ca, .slice pk nk ck, .slice pl nl cl].toArray 26)) = w1 at *
    refine (KU _ G1.out).out.mono ?_
    rintro e w3 ⟨rfl, G3⟩
    have GT := hide (G1.out.trans G3)
    clear G3 KU
    go_wp2
    go_ret
    exact ⟨ret_int (by rw [hR.out]; rfl), GT.out⟩
  · rw [hv] at hR KU
    have KG := KG hv
    obtain ⟨bx1, bx2, by1, by2, bz1, bz2⟩ := BD.out hv
    have ea : acF F size = asF F size := by unfold acF; rw [if_pos hv]
    have ed : dcF F size = scF F size F.d := by unfold dcF; rw [if_pos hv]
    rw [ea] at KC
    rw [ed] at KE
    generalize asF F size = x at *
    generalize scF F size F.d = y at *
    generalize scF F size F.g = z at *
    have wxy : IntKind.i64.wrap (x + y) = x + y := wr (by omega) (by omega)
    have wxyz : IntKind.i64.wrap (x + y + z) = x + y + z := wr (by omega) (by omega)
    clear KA KD H hL hv ea ed bx1 bx2 by1 by2 bz1 bz2 BD
    obtain ⟨u, a, d, g, df, na, av, nk, kv, nl, lv⟩ := F
    obtain ⟨pa, ca, pk, ck, pl, cl⟩ := s
    dsimp only [Fn.v] at *
    obtain ⟨b0, hb0⟩ : ∃ b0, b0 = w.heap.size := ⟨_, rfl⟩
    have G0 : Hid (∀ o, Grew w (w.alloc o)) := fun o => (Grew.refl w).alloc o
    go_enter Try.func26, Try.ntmps26
    go_wp2_with fail
    have B0 : Hid (Blk (w.alloc (.cells [.int .i64 u, .int .i64 a, .int .i64 d, .int .i64 g, .int .i64 df, .slice pa na ca, .slice pk nk ck, .slice pl nl cl].toArray 26)) b0 26 [.int .i64 u, .int .i64 a, .int .i64 d, .int .i64 g, .int .i64 df, .slice pa na ca, .slice pk nk ck, .slice pl nl cl]) := Blk.new hb0
    rw [← hb0]
    have G1 := hide (G0.out (.cells [.int .i64 u, .int .i64 a, .int .i64 d, .int .i64 g, .int .i64 df, .slice pa na ca, .slice pk nk ck, .slice pl nl cl].toArray 26))
    have hw : Hid (w.heap.size ≤ b0) := Nat.le_of_eq hb0.symm
    clear G0 hb0
    generalize (w.alloc (.cells [.int .i64 u, .int .i64 a, .int .i64 d, .int .i64 g, .int .i64 df, .slice pa na ca, .slice pk nk ck, .slice pl nl cl].toArray 26)) = w1 at *
    refine (KU _ G1.out).out.mono ?_
    rintro e w3 ⟨rfl, G3⟩
    have B3 := hide (B0.out.grew G3)
    have GT := hide (G1.out.trans G3)
    clear G3 KU B0 G1
    have KC' : ∀ q os, Hid (Calls Try.prog 24 #[.agg #[.int .i64 u, .int .i64 a, .int .i64 d, .int .i64 g, .int .i64 df, .slice pa na ca, .slice pk nk ck, .slice pl nl cl], .int .i64 size] (grow (w3.drewN q) os) fun e w' => e = .returned (.int .i64 x) ∧ Grew (grow (w3.drewN q) os) w') := fun q os => KC _ (GT.out.trans (((Grew.refl w3).drewN q).grow os))
    have KE' : ∀ q os, Hid (Calls Try.prog 25 #[.agg #[.int .i64 u, .int .i64 a, .int .i64 d, .int .i64 g, .int .i64 df, .slice pa na ca, .slice pk nk ck, .slice pl nl cl], .int .i64 size] (grow (w3.drewN q) os) fun e w' => e = .returned (.int .i64 y) ∧ Grew (grow (w3.drewN q) os) w') := fun q os => KE _ (GT.out.trans (((Grew.refl w3).drewN q).grow os))
    clear KC KE
    have g0 := fun m os => (Blk.grow B3.out m os).cell 0 rfl
    have g1 := fun m os => (Blk.grow B3.out m os).cell 1 rfl
    have g2 := fun m os => (Blk.grow B3.out m os).cell 2 rfl
    have g3 := fun m os => (Blk.grow B3.out m os).cell 3 rfl
    have g4 := fun m os => (Blk.grow B3.out m os).cell 4 rfl
    have g5 := fun m os => (Blk.grow B3.out m os).cell 5 rfl
    have g6 := fun m os => (Blk.grow B3.out m os).cell 6 rfl
    have g7 := fun m os => (Blk.grow B3.out m os).cell 7 rfl
    go_wp2
    refine wp_region_calm (by kernel_rfl) (by kernel_rfl) ?_
    repeat (first | (refine lex_skip rfl (by rfl) ?_) | (refine lex_calm rfl (by rfl) (fun K hK => ?_); go_simp; first | (refine hK _ ?_; clear hK K) | (apply Exists.intro; refine ⟨fun _ _ => ?_, hK _ ?_⟩; (first | (with_reducible exact (KC' _ _).out) | (with_reducible exact (KE' _ _).out) | (with_reducible exact (KG _).out)); clear hK K)))
    refine lex_nil ?_
    intro w4 G4
    have GT4 := hide (GT.out.trans G4)
    clear G4 KC' KE' KG g0 g1 g2 g3 g4 g5 g6 g7
    go_wp2
    go_ret
    exact ⟨ret_int (by rw [hR.out]; rfl), GT4.out⟩
end Go.Proofs.Ytfiaongnogiegaa
