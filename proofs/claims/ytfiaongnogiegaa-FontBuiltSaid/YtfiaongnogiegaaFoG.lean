/- What Advance, Ascent, Descent and Height return, for every font and size; no condition but that its lists read as such. -/
import Derived.Test.YtfiaongnogiegaaFoF
namespace Go.Proofs.Ytfiaongnogiegaa
open Go.RowKit Go.Sort
set_option linter.unusedVariables false
set_option linter.unusedSimpArgs false

theorem allK_spec {p : Nat → Bool} : ∀ (m k : Nat), allK p k m = true ↔ ∀ i, k ≤ i → i < k + m → p i = true
  | 0, k => by simp [allK]; intro i h1 h2; omega
  | m + 1, k => by
    simp only [allK, Bool.and_eq_true, allK_spec m (k + 1)]
    constructor
    · rintro ⟨h1, h2⟩ i h3 h4
      rcases Nat.lt_or_ge k i with h | h
      · exact h2 i h (by omega)
      · rwa [show i = k by omega]
    · intro h
      exact ⟨h k (Nat.le_refl _) (by omega), fun i h1 h2 => h i (by omega) (by omega)⟩
/-- What a valid font holds. -/
structure Ok (F : Fn) : Prop where
  u : 16 ≤ F.u ∧ F.u ≤ 4096
  a : 0 ≤ F.a ∧ F.a ≤ 4096
  d : 0 ≤ F.d ∧ F.d ≤ 4096
  g : 0 ≤ F.g ∧ F.g ≤ 4096
  df : 0 ≤ F.df ∧ F.df ≤ 4096
  na : F.na ≤ 100
  nk : F.nk ≤ 100
  nl : F.nl ≤ 100
  av : ∀ i, i < F.na → 0 ≤ (F.av i).w ∧ (F.av i).w ≤ 4096
  kv : ∀ i, i < F.nk → -1000 ≤ (F.kv i).d ∧ (F.kv i).d ≤ 1000
theorem ok_of {F : Fn} (h : vldF F = 0) : Ok F := by
  unfold vldF at h
  split at h
  · omega
  · rename_i h100
    split at h
    · omega
    · rename_i hm
      simp only [Bool.not_eq_false, Bool.and_eq_true] at hm
      obtain ⟨h1, h2⟩ := hm
      simp only [metB, Bool.and_eq_true, decide_eq_true_eq] at h1
      obtain ⟨hu, ha, hd, hg, hf, _⟩ := h1
      simp only [lrB, Bool.and_eq_true, allK_spec] at h2
      obtain ⟨q1, q2, q3⟩ := h2
      refine ⟨hu, lenB_bd ha, lenB_bd hd, lenB_bd hg, lenB_bd hf, by omega, by omega, by omega, fun i hi => ?_, fun i hi => ?_⟩
      · have := q1 i (by omega) (by omega)
        simp only [radP, Bool.and_eq_true] at this
        exact lenB_bd this.2.2
      · have := q2 i (by omega) (by omega)
        simp only [rknP, Bool.and_eq_true, decide_eq_true_eq] at this
        exact this.2.2
theorem use_bd {F : Fn} {size : Int} (h : useB F size = true) : Ok F ∧ 1 ≤ size ∧ size ≤ 1000 := by
  simp only [useB, Bool.and_eq_true, decide_eq_true_eq, beq_iff_eq] at h
  exact ⟨ok_of h.2, h.1⟩
theorem wdF_bd {f : Nat → Ad} {df r : Int} (hd : 0 ≤ df ∧ df ≤ 4096) : ∀ (m k : Nat), (∀ i, k ≤ i → i < k + m → 0 ≤ (f i).w ∧ (f i).w ≤ 4096) → 0 ≤ wdF f df r k m ∧ wdF f df r k m ≤ 4096
  | 0, k, _ => hd
  | m + 1, k, h => by
    rw [wdF]
    split
    · exact h k (Nat.le_refl _) (by omega)
    · exact wdF_bd hd m (k + 1) fun i h1 h2 => h i (by omega) (by omega)

def asF (F : Fn) (size : Int) : Int := if scF F size F.a = 0 ∧ scF F size F.d = 0 then 1 else scF F size F.a
set_option maxRecDepth 100000 in
set_option maxHeartbeats 8000000 in
theorem extents_any (F : Fn) (s : Sl) (size : Int) (w : World) (hu : useB F size = true) :
    Calls Try.prog 38 #[F.v s, .int .i64 size] w fun e w' => e = .returned (.tuple #[.int .i64 (asF F size), .int .i64 (scF F size F.d)]) ∧ Grew w w' := by
  obtain ⟨ok, hs⟩ := use_bd hu
  have oa := ok.a
  have od := ok.d
  have S1 := fun W => hide (scaled_any F s size F.a W ok.u hs (by omega))
  have S2 := fun W => hide (scaled_any F s size F.d W ok.u hs (by omega))
  obtain ⟨R, hR⟩ : ∃ R, R = asF F size := ⟨_, rfl⟩
  rw [← hR]
  unfold asF at hR
  replace hR := hide hR
  generalize scF F size F.a = x at *
  generalize scF F size F.d = y at *
  clear ok hs hu oa od
  obtain ⟨u, a, d, g, df, na, av, nk, kv, nl, lv⟩ := F
  obtain ⟨pa, ca, pk, ck, pl, cl⟩ := s
  dsimp only [Fn.v] at *
  obtain ⟨b0, hb0⟩ : ∃ b0, b0 = w.heap.size := ⟨_, rfl⟩
  have G0 : Hid (∀ o, Grew w (w.alloc o)) := fun o => (Grew.refl w).alloc o
  go_enter Try.func38, Try.ntmps38
  go_wp2_with fail
  have B0 : Hid (Blk (w.alloc (.cells [.int .i64 u, .int .i64 a, .int .i64 d, .int .i64 g, .int .i64 df, .slice pa na ca, .slice pk nk ck, .slice pl nl cl].toArray 26)) b0 26 [.int .i64 u, .int .i64 a, .int .i64 d, .int .i64 g, .int .i64 df, .slice pa na ca, .slice pk nk ck, .slice pl nl cl]) := Blk.new hb0
  rw [← hb0]
  have G1 := hide (G0.out (.cells [.int .i64 u, .int .i64 a, .int .i64 d, .int .i64 g, .int .i64 df, .slice pa na ca, .slice pk nk ck, .slice pl nl cl].toArray 26))
  have hw : Hid (w.heap.size ≤ b0) := Nat.le_of_eq hb0.symm
  clear G0 hb0
  generalize (w.alloc (.cells [.int .i64 u, .int .i64 a, .int .i64 d, .int .i64 g, .int .i64 df, .slice pa na ca, .slice pk nk ck, .slice pl nl cl].toArray 26)) = w1 at *
  have g0 := fun m os => (Blk.grow B0.out m os).cell 0 rfl
  have g1 := fun m os => (Blk.grow B0.out m os).cell 1 rfl
  have g2 := fun m os => (Blk.grow B0.out m os).cell 2 rfl
  have g3 := fun m os => (Blk.grow B0.out m os).cell 3 rfl
  have g4 := fun m os => (Blk.grow B0.out m os).cell 4 rfl
  have g5 := fun m os => (Blk.grow B0.out m os).cell 5 rfl
  have g6 := fun m os => (Blk.grow B0.out m os).cell 6 rfl
  have g7 := fun m os => (Blk.grow B0.out m os).cell 7 rfl
  refine wp_region_calm (by kernel_rfl) (by kernel_rfl) ?_
  repeat (first | (refine lex_skip rfl (by rfl) ?_) | (refine lex_calm rfl (by rfl) (fun K hK => ?_); go_simp; first | (refine hK _ ?_; clear hK K) | (apply Exists.intro; refine ⟨fun _ _ => ?_, hK _ ?_⟩; (first | (with_reducible exact (S1 _).out) | (with_reducible exact (S2 _).out)); clear hK K)))
  refine lex_nil ?_
  intro w3 G3
  have GT := hide (G1.out.trans G3)
  clear G3 g0 g1 g2 g3 g4 g5 g6 g7 S1 S2 B0
  by_cases hx : x = 0
  · subst hx
    by_cases hy : y = 0
    · subst hy
      go_wp2
      go_ret2
      refine ⟨?_, GT.out⟩
      have e1 : R = 1 := by have := hR.out; simpa using this
      rw [e1]
      rfl
    · have hy' : (y == 0) = false := by simpa using hy
      go_wp2
      go_ret2
      refine ⟨?_, GT.out⟩
      rw [hR.out, if_neg (fun h => hy h.2)]
      rfl
  · have hx' : (x == 0) = false := by simpa using hx
    go_wp2
    go_ret2
    refine ⟨?_, GT.out⟩
    rw [hR.out, if_neg (fun h => hx h.1)]
    rfl

def advF (F : Fn) (size r : Int) : Int := if (useB F size && advB r) = true then scF F size (wdF F.av F.df r 0 F.na) else 0
set_option maxRecDepth 100000 in
set_option maxHeartbeats 8000000 in
theorem Advance_any (F : Fn) (s : Sl) (size r : Int) (w : World) (H : FAt w F s) (hr : -2147483648 ≤ r ∧ r ≤ 2147483647) :
    Calls Try.prog 14 #[F.v s, .int .i64 size, .int .i32 r] w fun e w' => e = .returned (.int .i64 (advF F size r)) ∧ Grew w w' := by
  have KU := fun W => fun (g : Grew w W) => hide (usable_any F s size W (H.grew g))
  have KA := fun W => hide (advances_any r W hr)
  have KW : useB F size = true → Hid (∀ W, Grew w W → Calls Try.prog 37 #[F.v s, .int .i32 r] W fun e w' => e = .returned (.int .i64 (wdF F.av F.df r 0 F.na)) ∧ Grew W w') := fun h W g => widthOf_any F s r W (H.grew g) (by have := (use_bd h).1.na; omega)
  have KS : useB F size = true → Hid (∀ W, Calls Try.prog 36 #[F.v s, .int .i64 size, .int .i64 (wdF F.av F.df r 0 F.na)] W fun e w' => e = .returned (.int .i64 (scF F size (wdF F.av F.df r 0 F.na))) ∧ Grew W w') := fun h W => by
    obtain ⟨ok, hs⟩ := use_bd h
    have := wdF_bd (r := r) ok.df F.na 0 fun i _ h2 => ok.av i (by omega)
    exact scaled_any F s size _ W ok.u hs (by omega)
  obtain ⟨R, hR⟩ : ∃ R, R = advF F size r := ⟨_, rfl⟩
  rw [← hR]
  unfold advF at hR
  replace hR := hide hR
  generalize scF F size (wdF F.av F.df r 0 F.na) = z at *
  generalize wdF F.av F.df r 0 F.na = y at *
  generalize advB r = v2 at *
  cases hv : useB F size
  · rw [hv] at hR KU
    clear KW KS KA hr H hv
    obtain ⟨u, a, d, g, df, na, av, nk, kv, nl, lv⟩ := F
    obtain ⟨pa, ca, pk, ck, pl, cl⟩ := s
    dsimp only [Fn.v] at *
    obtain ⟨b0, hb0⟩ : ∃ b0, b0 = w.heap.size := ⟨_, rfl⟩
    have G0 : Hid (∀ o, Grew w (w.alloc o)) := fun o => (Grew.refl w).alloc o
    go_enter Try.func14, Try.ntmps14
    go_wp2_with fail
    have B0 : Hid (Blk (w.alloc (.cells [.int .i64 u, .int .i64 a, .int .i64 d, .int .i64 g, .int .i64 df, .slice pa na ca, .slice pk nk ck, .slice pl nl cl].toArray 26)) b0 26 [.int .i64 u, .int .i64 a, .int .i64 d, .int .i64 g, .int .i64 df, .slice pa na ca, .slice pk nk ck, .slice pl nl cl]) := Blk.new hb0
    rw [← hb0]
    have G1 := hide (G0.out (.cells [.int .i64 u, .int .i64 a, .int .i64 d, .int .i64 g, .int .i64 df, .slice pa na ca, .slice pk nk ck, .slice pl nl cl].toArray 26))
    have hw : Hid (w.heap.size ≤ b0) := Nat.le_of_eq hb0.symm
    clear G0 hb0
    generalize (w.alloc (.cells [.int .i64 u, .int .i64 a, .int .i64 d, .int .i64 g, .int .i64 df, .slice pa na ca, .slice pk nk ck, .slice pl nl cl].toArray 26)) = w1 at *
    refine (KU _ G1.out).out.mono ?_
    rintro e w3 ⟨rfl, G3⟩
    have GT := hide (G1.out.trans G3)
    clear G3 KU
    go_wp2
    go_ret
    exact ⟨ret_int (by rw [hR.out]; rfl), GT.out⟩
  · rw [hv] at hR KU
    have KW := KW hv
    have KS := KS hv
    clear hr H hv
    obtain ⟨u, a, d, g, df, na, av, nk, kv, nl, lv⟩ := F
    obtain ⟨pa, ca, pk, ck, pl, cl⟩ := s
    dsimp only [Fn.v] at *
    obtain ⟨b0, hb0⟩ : ∃ b0, b0 = w.heap.size := ⟨_, rfl⟩
    have G0 : Hid (∀ o, Grew w (w.alloc o)) := fun o => (Grew.refl w).alloc o
    go_enter Try.func14, Try.ntmps14
    go_wp2_with fail
    have B0 : Hid (Blk (w.alloc (.cells [.int .i64 u, .int .i64 a, .int .i64 d, .int .i64 g, .int .i64 df, .slice pa na ca, .slice pk nk ck, .slice pl nl cl].toArray 26)) b0 26 [.int .i64 u, .int .i64 a, .int .i64 d, .int .i64 g, .int .i64 df, .slice pa na ca, .slice pk nk ck, .slice pl nl cl]) := Blk.new hb0
    rw [← hb0]
    have G1 := hide (G0.out (.cells [.int .i64 u, .int .i64 a, .int .i64 d, .int .i64 g, .int .i64 df, .slice pa na ca, .slice pk nk ck, .slice pl nl cl].toArray 26))
    have hw : Hid (w.heap.size ≤ b0) := Nat.le_of_eq hb0.symm
    clear G0 hb0
    generalize (w.alloc (.cells [.int .i64 u, .int .i64 a, .int .i64 d, .int .i64 g, .int .i64 df, .slice pa na ca, .slice pk nk ck, .slice pl nl cl].toArray 26)) = w1 at *
    refine (KU _ G1.out).out.mono ?_
    rintro e w3 ⟨rfl, G3⟩
    have B3 := hide (B0.out.grew G3)
    have GT := hide (G1.out.trans G3)
    clear G3 KU B0 G1
    go_wp2_with fail
    refine (KA _).out.mono ?_
    rintro e w4 ⟨rfl, G4⟩
    have B4 := hide (B3.out.grew G4)
    have GT4 := hide (GT.out.trans G4)
    clear G4 KA B3 GT
    cases v2
    · go_wp2
      go_ret
      exact ⟨ret_int (by rw [hR.out]; rfl), GT4.out⟩
    have KW' : ∀ n os, Hid (Calls Try.prog 37 #[(Fn.mk u a d g df na av nk kv nl lv).v ⟨pa, ca, pk, ck, pl, cl⟩, .int .i32 r] (grow (w4.drewN n) os) fun e w' => e = .returned (.int .i64 y) ∧ Grew (grow (w4.drewN n) os) w') := fun n os => KW.out _ (GT4.out.trans (((Grew.refl w4).drewN n).grow os))
    dsimp only [Fn.v] at KW'
    have g0 := fun m os => (Blk.grow B4.out m os).cell 0 rfl
    have g1 := fun m os => (Blk.grow B4.out m os).cell 1 rfl
    have g2 := fun m os => (Blk.grow B4.out m os).cell 2 rfl
    have g3 := fun m os => (Blk.grow B4.out m os).cell 3 rfl
    have g4 := fun m os => (Blk.grow B4.out m os).cell 4 rfl
    have g5 := fun m os => (Blk.grow B4.out m os).cell 5 rfl
    have g6 := fun m os => (Blk.grow B4.out m os).cell 6 rfl
    have g7 := fun m os => (Blk.grow B4.out m os).cell 7 rfl
    go_wp2_with fail
    refine wp_region_calm (by kernel_rfl) (by kernel_rfl) ?_
    repeat (first | (refine lex_skip rfl (by rfl) ?_) | (refine lex_calm rfl (by rfl) (fun K hK => ?_); go_simp; first | (refine hK _ ?_; clear hK K) | (apply Exists.intro; refine ⟨fun _ _ => ?_, hK _ ?_⟩; (first | (with_reducible exact (KW' _ _).out) | (with_reducible exact KS.out _)); clear hK K)))
    refine lex_nil ?_
    intro w5 G5
    have GT5 := hide (GT4.out.trans G5)
    clear G5 g0 g1 g2 g3 g4 g5 g6 g7 KW' KW KS B4
    go_wp2
    go_ret
    exact ⟨ret_int (by rw [hR.out]; rfl), GT5.out⟩

theorem rnd_bd {a b m : Int} (hb : 0 < b) (ha : 0 ≤ a) (hm : a ≤ m * b) : 0 ≤ rnd a b ∧ rnd a b ≤ m := by
  unfold rnd
  constructor
  · exact Int.fdiv_nonneg (by omega) (by omega)
  · have h1 : (2 * a + b).fdiv (2 * b) < m + 1 := by
      rw [Int.fdiv_eq_ediv_of_nonneg _ (by omega)]
      refine Int.ediv_lt_of_lt_mul (by omega) ?_
      have : (m + 1) * (2 * b) = 2 * (m * b) + 2 * b := by rw [Int.add_mul, Int.one_mul, Int.mul_left_comm]
      omega
    omega
theorem scF_bd {F : Fn} {size x : Int} (hu : 16 ≤ F.u) (hs : 1 ≤ size ∧ size ≤ 1000) (hx : 0 ≤ x ∧ x ≤ 4096) : 0 ≤ scF F size x ∧ scF F size x ≤ 256000 := by
  have h1 : x * size ≤ 4096 * size := Int.mul_le_mul_of_nonneg_right hx.2 (by omega)
  have h0 : 0 ≤ x * size := Int.mul_nonneg hx.1 (by omega)
  exact rnd_bd (by omega) h0 (by omega)
theorem height_bd (F : Fn) (size : Int) (h : useB F size = true) : 0 ≤ asF F size ∧ asF F size ≤ 256000 ∧ 0 ≤ scF F size F.d ∧ scF F size F.d ≤ 256000 ∧ 0 ≤ scF F size F.g ∧ scF F size F.g ≤ 256000 := by
  obtain ⟨ok, hs⟩ := use_bd h
  have h1 := scF_bd ok.u.1 hs ok.a
  have h2 := scF_bd ok.u.1 hs ok.d
  have h3 := scF_bd ok.u.1 hs ok.g
  unfold asF
  split <;> omega

def acF (F : Fn) (size : Int) : Int := if useB F size = true then asF F size else 0
set_option maxRecDepth 100000 in
set_option maxHeartbeats 8000000 in
theorem Ascent_any (F : Fn) (s : Sl) (size : Int) (w : World) (H : FAt w F s) :
    Calls Try.prog 15 #[F.v s, .int .i64 size] w fun e w' => e = .returned (.int .i64 (acF F size)) ∧ Grew w w' := by
  have KU := fun W => fun (g : Grew w W) => hide (usable_any F s size W (H.grew g))
  have KE : useB F size = true → Hid (∀ W, Calls Try.prog 38 #[F.v s, .int .i64 size] W fun e w' => e = .returned (.tuple #[.int .i64 (asF F size), .int .i64 (scF F size F.d)]) ∧ Grew W w') := fun h W => extents_any F s size W h
  obtain ⟨R, hR⟩ : ∃ R, R = acF F size := ⟨_, rfl⟩
  rw [← hR]
  unfold acF at hR
  replace hR := hide hR
  generalize asF F size = x at *
  generalize scF F size F.d = y at *
  cases hv : useB F size
  · rw [hv] at hR KU
    clear KE  H hv
    obtain ⟨u, a, d, g, df, na, av, nk, kv, nl, lv⟩ := F
    obtain ⟨pa, ca, pk, ck, pl, cl⟩ := s
    dsimp only [Fn.v] at *
    obtain ⟨b0, hb0⟩ : ∃ b0, b0 = w.heap.size := ⟨_, rfl⟩
    have G0 : Hid (∀ o, Grew w (w.alloc o)) := fun o => (Grew.refl w).alloc o
    go_enter Try.func15, Try.ntmps15
    go_wp2_with fail
    have B0 : Hid (Blk (w.alloc (.cells [.int .i64 u, .int .i64 a, .int .i64 d, .int .i64 g, .int .i64 df, .slice pa na ca, .slice pk nk ck, .slice pl nl cl].toArray 26)) b0 26 [.int .i64 u, .int .i64 a, .int .i64 d, .int .i64 g, .int .i64 df, .slice pa na ca, .slice pk nk ck, .slice pl nl cl]) := Blk.new hb0
    rw [← hb0]
    have G1 := hide (G0.out (.cells [.int .i64 u, .int .i64 a, .int .i64 d, .int .i64 g, .int .i64 df, .slice pa na ca, .slice pk nk ck, .slice pl nl cl].toArray 26))
    have hw : Hid (w.heap.size ≤ b0) := Nat.le_of_eq hb0.symm
    clear G0 hb0
    generalize (w.alloc (.cells [.int .i64 u, .int .i64 a, .int .i64 d, .int .i64 g, .int .i64 df, .slice pa na ca, .slice pk nk ck, .slice pl nl cl].toArray 26)) = w1 at *
    refine (KU _ G1.out).out.mono ?_
    rintro e w3 ⟨rfl, G3⟩
    have GT := hide (G1.out.trans G3)
    clear G3 KU
    go_wp2
    go_ret
    exact ⟨ret_int (by rw [hR.out]; rfl), GT.out⟩
  · rw [hv] at hR KU
    have KE := KE hv
    clear H hv
    obtain ⟨u, a, d, g, df, na, av, nk, kv, nl, lv⟩ := F
    obtain ⟨pa, ca, pk, ck, pl, cl⟩ := s
    dsimp only [Fn.v] at *
    obtain ⟨b0, hb0⟩ : ∃ b0, b0 = w.heap.size := ⟨_, rfl⟩
    have G0 : Hid (∀ o, Grew w (w.alloc o)) := fun o => (Grew.refl w).alloc o
    go_enter Try.func15, Try.ntmps15
    go_wp2_with fail
    have B0 : Hid (Blk (w.alloc (.cells [.int .i64 u, .int .i64 a, .int .i64 d, .int .i64 g, .int .i64 df, .slice pa na ca, .slice pk nk ck, .slice pl nl cl].toArray 26)) b0 26 [.int .i64 u, .int .i64 a, .int .i64 d, .int .i64 g, .int .i64 df, .slice pa na ca, .slice pk nk ck, .slice pl nl cl]) := Blk.new hb0
    rw [← hb0]
    have G1 := hide (G0.out (.cells [.int .i64 u, .int .i64 a, .int .i64 d, .int .i64 g, .int .i64 df, .slice pa na ca, .slice pk nk ck, .slice pl nl cl].toArray 26))
    have hw : Hid (w.heap.size ≤ b0) := Nat.le_of_eq hb0.symm
    clear G0 hb0
    generalize (w.alloc (.cells [.int .i64 u, .int .i64 a, .int .i64 d, .int .i64 g, .int .i64 df, .slice pa na ca, .slice pk nk ck, .slice pl nl cl].toArray 26)) = w1 at *
    refine (KU _ G1.out).out.mono ?_
    rintro e w3 ⟨rfl, G3⟩
    have B3 := hide (B0.out.grew G3)
    have GT := hide (G1.out.trans G3)
    clear G3 KU B0 G1
    have c0 := (B3.out).cell 0 rfl
    have c1 := (B3.out).cell 1 rfl
    have c2 := (B3.out).cell 2 rfl
    have c3 := (B3.out).cell 3 rfl
    have c4 := (B3.out).cell 4 rfl
    have c5 := (B3.out).cell 5 rfl
    have c6 := (B3.out).cell 6 rfl
    have c7 := (B3.out).cell 7 rfl
    go_wp2_with fail
    refine (KE.out _).mono ?_
    rintro e w4 ⟨rfl, G4⟩
    have B4 := hide (B3.out.grew G4)
    have GT4 := hide (GT.out.trans G4)
    clear G4 KE B3 GT c0 c1 c2 c3 c4 c5 c6 c7
    go_wp2
    go_ret
    exact ⟨ret_int (by rw [hR.out]; rfl), GT4.out⟩

def dcF (F : Fn) (size : Int) : Int := if useB F size = true then scF F size F.d else 0
set_option maxRecDepth 100000 in
set_option maxHeartbeats 8000000 in
theorem Descent_any (F : Fn) (s : Sl) (size : Int) (w : World) (H : FAt w F s) :
    Calls Try.prog 16 #[F.v s, .int .i64 size] w fun e w' => e = .returned (.int .i64 (dcF F size)) ∧ Grew w w' := by
  have KU := fun W => fun (g : Grew w W) => hide (usable_any F s size W (H.grew g))
  have KE : useB F size = true → Hid (∀ W, Calls Try.prog 38 #[F.v s, .int .i64 size] W fun e w' => e = .returned (.tuple #[.int .i64 (asF F size), .int .i64 (scF F size F.d)]) ∧ Grew W w') := fun h W => extents_any F s size W h
  obtain ⟨R, hR⟩ : ∃ R, R = dcF F size := ⟨_, rfl⟩
  rw [← hR]
  unfold dcF at hR
  replace hR := hide hR
  generalize asF F size = x at *
  generalize scF F size F.d = y at *
  cases hv : useB F size
  · rw [hv] at hR KU
    clear KE  H hv
    obtain ⟨u, a, d, g, df, na, av, nk, kv, nl, lv⟩ := F
    obtain ⟨pa, ca, pk, ck, pl, cl⟩ := s
    dsimp only [Fn.v] at *
    obtain ⟨b0, hb0⟩ : ∃ b0, b0 = w.heap.size := ⟨_, rfl⟩
    have G0 : Hid (∀ o, Grew w (w.alloc o)) := fun o => (Grew.refl w).alloc o
    go_enter Try.func16, Try.ntmps16
    go_wp2_with fail
    have B0 : Hid (Blk (w.alloc (.cells [.int .i64 u, .int .i64 a, .int .i64 d, .int .i64 g, .int .i64 df, .slice pa na ca, .slice pk nk ck, .slice pl nl cl].toArray 26)) b0 26 [.int .i64 u, .int .i64 a, .int .i64 d, .int .i64 g, .int .i64 df, .slice pa na ca, .slice pk nk ck, .slice pl nl cl]) := Blk.new hb0
    rw [← hb0]
    have G1 := hide (G0.out (.cells [.int .i64 u, .int .i64 a, .int .i64 d, .int .i64 g, .int .i64 df, .slice pa na ca, .slice pk nk ck, .slice pl nl cl].toArray 26))
    have hw : Hid (w.heap.size ≤ b0) := Nat.le_of_eq hb0.symm
    clear G0 hb0
    generalize (w.alloc (.cells [.int .i64 u, .int .i64 a, .int .i64 d, .int .i64 g, .int .i64 df, .slice pa na ca, .slice pk nk ck, .slice pl nl cl].toArray 26)) = w1 at *
    refine (KU _ G1.out).out.mono ?_
    rintro e w3 ⟨rfl, G3⟩
    have GT := hide (G1.out.trans G3)
    clear G3 KU
    go_wp2
    go_ret
    exact ⟨ret_int (by rw [hR.out]; rfl), GT.out⟩
  · rw [hv] at hR KU
    have KE := KE hv
    clear H hv
    obtain ⟨u, a, d, g, df, na, av, nk, kv, nl, lv⟩ := F
    obtain ⟨pa, ca, pk, ck, pl, cl⟩ := s
    dsimp only [Fn.v] at *
    obtain ⟨b0, hb0⟩ : ∃ b0, b0 = w.heap.size := ⟨_, rfl⟩
    have G0 : Hid (∀ o, Grew w (w.alloc o)) := fun o => (Grew.refl w).alloc o
    go_enter Try.func16, Try.ntmps16
    go_wp2_with fail
    have B0 : Hid (Blk (w.alloc (.cells [.int .i64 u, .int .i64 a, .int .i64 d, .int .i64 g, .int .i64 df, .slice pa na ca, .slice pk nk ck, .slice pl nl cl].toArray 26)) b0 26 [.int .i64 u, .int .i64 a, .int .i64 d, .int .i64 g, .int .i64 df, .slice pa na ca, .slice pk nk ck, .slice pl nl cl]) := Blk.new hb0
    rw [← hb0]
    have G1 := hide (G0.out (.cells [.int .i64 u, .int .i64 a, .int .i64 d, .int .i64 g, .int .i64 df, .slice pa na ca, .slice pk nk ck, .slice pl nl cl].toArray 26))
    have hw : Hid (w.heap.size ≤ b0) := Nat.le_of_eq hb0.symm
    clear G0 hb0
    generalize (w.alloc (.cells [.int .i64 u, .int .i64 a, .int .i64 d, .int .i64 g, .int .i64 df, .slice pa na ca, .slice pk nk ck, .slice pl nl cl].toArray 26)) = w1 at *
    refine (KU _ G1.out).out.mono ?_
    rintro e w3 ⟨rfl, G3⟩
    have B3 := hide (B0.out.grew G3)
    have GT := hide (G1.out.trans G3)
    clear G3 KU B0 G1
    have c0 := (B3.out).cell 0 rfl
    have c1 := (B3.out).cell 1 rfl
    have c2 := (B3.out).cell 2 rfl
    have c3 := (B3.out).cell 3 rfl
    have c4 := (B3.out).cell 4 rfl
    have c5 := (B3.out).cell 5 rfl
    have c6 := (B3.out).cell 6 rfl
    have c7 := (B3.out).cell 7 rfl
    go_wp2_with fail
    refine (KE.out _).mono ?_
    rintro e w4 ⟨rfl, G4⟩
    have B4 := hide (B3.out.grew G4)
    have GT4 := hide (GT.out.trans G4)
    clear G4 KE B3 GT c0 c1 c2 c3 c4 c5 c6 c7
    go_wp2
    go_ret
    exact ⟨ret_int (by rw [hR.out]; rfl), GT4.out⟩

def htF (F : Fn) (size : Int) : Int := if useB F size = true then asF F size + scF F size F.d + scF F size F.g else 0
set_option maxRecDepth 100000 in
set_option maxHeartbeats 8000000 in
theorem Height_any (F : Fn) (s : Sl) (size : Int) (w : World) (H : FAt w F s) :
    Calls Try.prog 17 #[F.v s, .int .i64 size] w fun e w' => e = .returned (.int .i64 (htF F size)) ∧ Grew w w' := by
  have KU := fun W => fun (g : Grew w W) => hide (usable_any F s size W (H.grew g))
  have KE : useB F size = true → Hid (∀ W, Calls Try.prog 38 #[F.v s, .int .i64 size] W fun e w' => e = .returned (.tuple #[.int .i64 (asF F size), .int .i64 (scF F size F.d)]) ∧ Grew W w') := fun h W => extents_any F s size W h
  have KS : useB F size = true → Hid (∀ W, Calls Try.prog 36 #[F.v s, .int .i64 size, .int .i64 F.g] W fun e w' => e = .returned (.int .i64 (scF F size F.g)) ∧ Grew W w') := fun h W => by
    obtain ⟨ok, hs⟩ := use_bd h
    have := ok.g
    exact scaled_any F s size _ W ok.u hs (by omega)
  have BD := hide (height_bd F size)
  obtain ⟨R, hR⟩ : ∃ R, R = htF F size := ⟨_, rfl⟩
  rw [← hR]
  unfold htF at hR
  replace hR := hide hR
  generalize asF F size = x at *
  generalize scF F size F.d = y at *
  generalize scF F size F.g = z at *
  cases hv : useB F size
  · rw [hv] at hR KU
    clear KE KS BD H hv
    obtain ⟨u, a, d, g, df, na, av, nk, kv, nl, lv⟩ := F
    obtain ⟨pa, ca, pk, ck, pl, cl⟩ := s
    dsimp only [Fn.v] at *
    obtain ⟨b0, hb0⟩ : ∃ b0, b0 = w.heap.size := ⟨_, rfl⟩
    have G0 : Hid (∀ o, Grew w (w.alloc o)) := fun o => (Grew.refl w).alloc o
    go_enter Try.func17, Try.ntmps17
    go_wp2_with fail
    have B0 : Hid (Blk (w.alloc (.cells [.int .i64 u, .int .i64 a, .int .i64 d, .int .i64 g, .int .i64 df, .slice pa na ca, .slice pk nk ck, .slice pl nl cl].toArray 26)) b0 26 [.int .i64 u, .int .i64 a, .int .i64 d, .int .i64 g, .int .i64 df, .slice pa na ca, .slice pk nk ck, .slice pl nl cl]) := Blk.new hb0
    rw [← hb0]
    have G1 := hide (G0.out (.cells [.int .i64 u, .int .i64 a, .int .i64 d, .int .i64 g, .int .i64 df, .slice pa na ca, .slice pk nk ck, .slice pl nl cl].toArray 26))
    have hw : Hid (w.heap.size ≤ b0) := Nat.le_of_eq hb0.symm
    clear G0 hb0
    generalize (w.alloc (.cells [.int .i64 u, .int .i64 a, .int .i64 d, .int .i64 g, .int .i64 df, .slice pa na ca, .slice pk nk ck, .slice pl nl cl].toArray 26)) = w1 at *
    refine (KU _ G1.out).out.mono ?_
    rintro e w3 ⟨rfl, G3⟩
    have GT := hide (G1.out.trans G3)
    clear G3 KU
    go_wp2
    go_ret
    exact ⟨ret_int (by rw [hR.out]; rfl), GT.out⟩
  · rw [hv] at hR KU
    have KE := KE hv
    have KS := KS hv
    have BD := BD.out hv
    obtain ⟨bx1, bx2, by1, by2, bz1, bz2⟩ := BD
    have wxy : IntKind.i64.wrap (x + y) = x + y := wr (by omega) (by omega)
    have wxyz : IntKind.i64.wrap (x + y + z) = x + y + z := wr (by omega) (by omega)
    clear bx1 bx2 by1 by2 bz1 bz2
    clear H hv
    obtain ⟨u, a, d, g, df, na, av, nk, kv, nl, lv⟩ := F
    obtain ⟨pa, ca, pk, ck, pl, cl⟩ := s
    dsimp only [Fn.v] at *
    obtain ⟨b0, hb0⟩ : ∃ b0, b0 = w.heap.size := ⟨_, rfl⟩
    have G0 : Hid (∀ o, Grew w (w.alloc o)) := fun o => (Grew.refl w).alloc o
    go_enter Try.func17, Try.ntmps17
    go_wp2_with fail
    have B0 : Hid (Blk (w.alloc (.cells [.int .i64 u, .int .i64 a, .int .i64 d, .int .i64 g, .int .i64 df, .slice pa na ca, .slice pk nk ck, .slice pl nl cl].toArray 26)) b0 26 [.int .i64 u, .int .i64 a, .int .i64 d, .int .i64 g, .int .i64 df, .slice pa na ca, .slice pk nk ck, .slice pl nl cl]) := Blk.new hb0
    rw [← hb0]
    have G1 := hide (G0.out (.cells [.int .i64 u, .int .i64 a, .int .i64 d, .int .i64 g, .int .i64 df, .slice pa na ca, .slice pk nk ck, .slice pl nl cl].toArray 26))
    have hw : Hid (w.heap.size ≤ b0) := Nat.le_of_eq hb0.symm
    clear G0 hb0
    generalize (w.alloc (.cells [.int .i64 u, .int .i64 a, .int .i64 d, .int .i64 g, .int .i64 df, .slice pa na ca, .slice pk nk ck, .slice pl nl cl].toArray 26)) = w1 at *
    refine (KU _ G1.out).out.mono ?_
    rintro e w3 ⟨rfl, G3⟩
    have B3 := hide (B0.out.grew G3)
    have GT := hide (G1.out.trans G3)
    clear G3 KU B0 G1
    have c0 := (B3.out).cell 0 rfl
    have c1 := (B3.out).cell 1 rfl
    have c2 := (B3.out).cell 2 rfl
    have c3 := (B3.out).cell 3 rfl
    have c4 := (B3.out).cell 4 rfl
    have c5 := (B3.out).cell 5 rfl
    have c6 := (B3.out).cell 6 rfl
    have c7 := (B3.out).cell 7 rfl
    go_wp2_with fail
    refine (KE.out _).mono ?_
    rintro e w4 ⟨rfl, G4⟩
    have B4 := hide (B3.out.grew G4)
    have GT4 := hide (GT.out.trans G4)
    clear G4 KE B3 GT c0 c1 c2 c3 c4 c5 c6 c7
    have g0 := B4.out.cell 0 rfl
    have g1 := B4.out.cell 1 rfl
    have g2 := B4.out.cell 2 rfl
    have g3 := B4.out.cell 3 rfl
    have g4 := B4.out.cell 4 rfl
    have g5 := B4.out.cell 5 rfl
    have g6 := B4.out.cell 6 rfl
    have g7 := B4.out.cell 7 rfl
    go_wp2_with fail
    refine (KS.out _).mono ?_
    rintro e w5 ⟨rfl, G5⟩
    have GT4 := hide (GT4.out.trans G5)
    go_wp2
    go_ret
    exact ⟨ret_int (by rw [hR.out]; rfl), GT4.out⟩
end Go.Proofs.Ytfiaongnogiegaa
