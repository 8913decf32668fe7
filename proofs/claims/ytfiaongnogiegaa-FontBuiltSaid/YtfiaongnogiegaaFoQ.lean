/- What Kern returns, for every font and size; no condition but that its lists read as such. -/
import Derived.Test.YtfiaongnogiegaaFoG
namespace Go.Proofs.Ytfiaongnogiegaa
open Go.RowKit Go.Sort
set_option linter.unusedVariables false
set_option linter.unusedSimpArgs false

/-- The adjustment of the first of the elements k to k + m - 1 that is for a and b. -/
def kdF (f : Nat → Kn) (a b : Int) : Nat → Nat → Option Int
  | _, 0 => none
  | k, m + 1 => if (f k).a = a ∧ (f k).b = b then some (f k).d else kdF f a b (k + 1) m
theorem kdF_bd {f : Nat → Kn} {a b x : Int} : ∀ (m k : Nat), kdF f a b k m = some x → (∀ i, k ≤ i → i < k + m → -1000 ≤ (f i).d ∧ (f i).d ≤ 1000) → -1000 ≤ x ∧ x ≤ 1000
  | 0, k, h, _ => by simp [kdF] at h
  | m + 1, k, h, q => by
    rw [kdF] at h
    split at h
    · cases h; exact q k (Nat.le_refl _) (by omega)
    · exact kdF_bd m (k + 1) h fun i h1 h2 => q i (by omega) (by omega)
def krV (F : Fn) (size : Int) : Option Int → Int
  | some d => scF F size d
  | none => 0
def krF (F : Fn) (size a b : Int) : Int := if useB F size = true then krV F size (kdF F.kv a b 0 F.nk) else 0
set_option maxRecDepth 100000 in
set_option maxHeartbeats 8000000 in
theorem Kern_any (F : Fn) (s : Sl) (size a1 b1 : Int) (w : World) (H : FAt w F s) :
    Calls Try.prog 22 #[F.v s, .int .i64 size, .int .i32 a1, .int .i32 b1] w fun e w' => e = .returned (.int .i64 (krF F size a1 b1)) ∧ Grew w w' := by
  have KU := fun W => fun (gw : Grew w W) => hide (usable_any F s size W (H.grew gw))
  have KS : useB F size = true → Hid (∀ x W, -1000 ≤ x ∧ x ≤ 1000 → Calls Try.prog 36 #[F.v s, .int .i64 size, .int .i64 x] W fun e w' => e = .returned (.int .i64 (scF F size x)) ∧ Grew W w') := fun h x W hx => by
    obtain ⟨ok, hs⟩ := use_bd h
    exact scaled_any F s size x W ok.u hs (by omega)
  have KO : useB F size = true → Hid (F.nk ≤ 100 ∧ ∀ i, i < F.nk → -1000 ≤ (F.kv i).d ∧ (F.kv i).d ≤ 1000) := fun h => ⟨(use_bd h).1.nk, (use_bd h).1.kv⟩
  obtain ⟨R, hR⟩ : ∃ R, R = krF F size a1 b1 := ⟨_, rfl⟩
  rw [← hR]
  unfold krF at hR
  replace hR := hide hR
  cases hv : useB F size
  · rw [hv] at hR KU
    clear KS KO H hv
    obtain ⟨u, a, d, g, df, na, av, nk, kv, nl, lv⟩ := F
    obtain ⟨pa, ca, pk, ck, pl, cl⟩ := s
    dsimp only [Fn.v] at *
    obtain ⟨b0, hb0⟩ : ∃ b0, b0 = w.heap.size := ⟨_, rfl⟩
    have G0 : Hid (∀ o, Grew w (w.alloc o)) := fun o => (Grew.refl w).alloc o
    go_enter Try.func22, Try.ntmps22
    go_wp2_with fail
    have B0 : Hid (Blk (w.alloc (.cells [.int .i64 u, .int .i64 a, .int .i64 d, .int .i64 g, .int .i64 df, .slice pa na ca, .slice pk nk ck, .slice pl nl cl].toArray 26)) b0 26 [.int .i64 u, .int .i64 a, .int .i64 d, .int .i64 g, .int .i64 df, .slice pa na ca, .slice pk nk ck, .slice pl nl cl]) := Blk.new hb0
    rw [← hb0]
    have G1 := hide (G0.out (.cells [.int .i64 u, .int .i64 a, .int .i64 d, .int .i64 g, .int .i64 df, .slice pa na ca, .slice pk nk ck, .slice pl nl cl].toArray 26))
    have hw : Hid (w.heap.size ≤ b0) := Nat.le_of_eq hb0.symm
    clear G0 hb0
    generalize (w.alloc (.cells [.int .i64 u, .int .i64 a, .int .i64 d, .int .i64 g, .int .i64 df, .slice pa na ca, .slice pk nk ck, .slice pl nl cl].toArray 26)) = w1 at *
    refine (KU _ G1.out).out.mono ?_
    rintro e w3 ⟨rfl, G3⟩
    have GT := hide (G1.out.trans G3)
    clear G3 KU
    go_wp2
    go_ret
    exact ⟨ret_int (by rw [hR.out]; rfl), GT.out⟩
  · rw [hv] at hR KU
    have KS := KS hv
    have KO := KO hv
    have HK : Hid (SRow w s.pk F.nk 3 (knC F.kv)) := H.kv
    clear H hv
    obtain ⟨u, a, d, g, df, na, av, nk, kv, nl, lv⟩ := F
    obtain ⟨pa, ca, pk, ck, pl, cl⟩ := s
    dsimp only [Fn.v] at *
    obtain ⟨b0, hb0⟩ : ∃ b0, b0 = w.heap.size := ⟨_, rfl⟩
    have G0 : Hid (∀ o, Grew w (w.alloc o)) := fun o => (Grew.refl w).alloc o
    have SC : Hid (∀ x, scF ⟨u, a, d, g, df, na, av, nk, kv, nl, lv⟩ size x = scF ⟨u, a, d, g, df, na, av, nk, kv, nl, lv⟩ size x) := fun _ => rfl
    have hR : Hid (R = krV ⟨u, a, d, g, df, na, av, nk, kv, nl, lv⟩ size (kdF kv a1 b1 0 nk)) := hR.out
    have hnk : nk ≤ 100 := KO.out.1
    have HK : Hid (SRow w pk nk 3 (knC kv)) := HK.out
    go_enter Try.func22, Try.ntmps22
    go_wp2_with fail
    have B0 : Hid (Blk (w.alloc (.cells [.int .i64 u, .int .i64 a, .int .i64 d, .int .i64 g, .int .i64 df, .slice pa na ca, .slice pk nk ck, .slice pl nl cl].toArray 26)) b0 26 [.int .i64 u, .int .i64 a, .int .i64 d, .int .i64 g, .int .i64 df, .slice pa na ca, .slice pk nk ck, .slice pl nl cl]) := Blk.new hb0
    rw [← hb0]
    have G1 := hide (G0.out (.cells [.int .i64 u, .int .i64 a, .int .i64 d, .int .i64 g, .int .i64 df, .slice pa na ca, .slice pk nk ck, .slice pl nl cl].toArray 26))
    have hw : Hid (w.heap.size ≤ b0) := Nat.le_of_eq hb0.symm
    clear G0 hb0
    generalize (w.alloc (.cells [.int .i64 u, .int .i64 a, .int .i64 d, .int .i64 g, .int .i64 df, .slice pa na ca, .slice pk nk ck, .slice pl nl cl].toArray 26)) = w1 at *
    refine (KU _ G1.out).out.mono ?_
    rintro e w3 ⟨rfl, G3⟩
    have B3 := hide (B0.out.grew G3)
    have GT := hide (G1.out.trans G3)
    clear G3 KU B0 G1
    have c6 := B3.out.cell 6 rfl
    go_wp2
    clear c6
    have S0 : Hid (kdF kv a1 b1 0 (nk - 0) = kdF kv a1 b1 0 nk) := rfl
    go_loopg [18] (nk + 1) (fun gh vk wr => ∃ (k : Nat), vk = .int .i64 (k : Int) ∧ k ≤ nk ∧ nk - k < gh ∧ Hid (Grew w3 wr) ∧ Hid (kdF kv a1 b1 k (nk - k) = kdF kv a1 b1 0 nk))
    case atStart => exact ⟨0, by go_num, by omega, by omega, Grew.refl _, S0⟩
    case round =>
      clear S0
      obtain ⟨wo, rfl⟩ : ∃ wo : World, wo = wr := ⟨_, rfl⟩
      obtain ⟨k, rfl, hk, hg, G, S⟩ := hrel
      by_cases hlt : k < nk
      · have hltz : (k : Int) < (nk : Int) := by omega
        obtain ⟨b, off, rfl, hb, hc⟩ := (HK.out.grew (GT.out.trans G.out)) (by omega)
        have c0 : wo.cell? ⟨b, off + k * 3, none⟩ = some (.int .i32 (kv k).a) := hc k hlt 0 (by decide)
        have c1 : wo.cell? ⟨b, off + k * 3 + 1, none⟩ = some (.int .i32 (kv k).b) := hc k hlt 1 (by decide)
        have c2 : wo.cell? ⟨b, off + k * 3 + 2, none⟩ = some (.int .i64 (kv k).d) := hc k hlt 2 (by decide)
        have S' : Hid ((if (kv k).a = a1 ∧ (kv k).b = b1 then some (kv k).d else kdF kv a1 b1 (k + 1) (nk - (k + 1))) = kdF kv a1 b1 0 nk) := by
          have := S.out
          rwa [show nk - k = nk - (k + 1) + 1 by omega, kdF] at this
        have NX : Hid (∀ o, Grew w3 (wo.alloc o)) := fun o => G.out.alloc o
        have hd := hide (KO.out.2 k hlt)
        have BB := hide (B3.out.grew G.out)
        clear hc S hb KO
        generalize (kv k).a = x0 at *
        generalize (kv k).b = x1 at *
        generalize (kv k).d = x2 at *
        by_cases h1 : x0 = a1
        · by_cases h2 : x1 = b1
          · have e1 : (x0 == a1) = true := by simpa using h1
            have e2 : (x1 == b1) = true := by simpa using h2
            have S2 : Hid (kdF kv a1 b1 0 nk = some x2) := by have := S'.out; rw [if_pos ⟨h1, h2⟩] at this; exact this.symm
            replace h1 := hide h1
            replace h2 := hide h2
            have BA := hide (fun o => BB.out.alloc o)
            have b0 := fun o => (BA.out o).cell 0 rfl
            have b1' := fun o => (BA.out o).cell 1 rfl
            have b2 := fun o => (BA.out o).cell 2 rfl
            have b3 := fun o => (BA.out o).cell 3 rfl
            have b4 := fun o => (BA.out o).cell 4 rfl
            have b5 := fun o => (BA.out o).cell 5 rfl
            have b6 := fun o => (BA.out o).cell 6 rfl
            have b7 := fun o => (BA.out o).cell 7 rfl
            have q0 := BB.out.cell 0 rfl
            have q1 := BB.out.cell 1 rfl
            have q2 := BB.out.cell 2 rfl
            have q3 := BB.out.cell 3 rfl
            have q4 := BB.out.cell 4 rfl
            have q5 := BB.out.cell 5 rfl
            have q6 := BB.out.cell 6 rfl
            have q7 := BB.out.cell 7 rfl
            have hbl := BB.out.lt
            clear S'
            go_wp2_with fail
            refine (KS.out x2 _ hd.out).mono ?_
            rintro e w5 ⟨rfl, G5⟩
            have GF := hide (GT.out.trans ((NX.out _).trans G5))
            clear G5
            go_wp2
            go_ret
            exact ⟨ret_int (by rw [hR.out, S2.out]; rfl), GF.out⟩
          · have e2 : (x1 == b1) = false := by simpa using h2
            have S2 := hide (S'.out)
            rw [if_neg (fun h => h2 h.2)] at S2
            clear S'
            go_wp2
            go_roundg (nk - k)
            case measure => omega
            case rel => exact ⟨k + 1, by go_num, by omega, by omega, NX.out _, S2⟩
        · have e1 : (x0 == a1) = false := by simpa using h1
          have S2 := hide (S'.out)
          rw [if_neg (fun h => h1 h.1)] at S2
          clear S'
          go_wp2
          go_roundg (nk - k)
          case measure => omega
          case rel => exact ⟨k + 1, by go_num, by omega, by omega, NX.out _, S2⟩
      · have hltz : ¬ (k : Int) < (nk : Int) := by omega
        have S2 : Hid (kdF kv a1 b1 0 nk = none) := by
          have := S.out
          rw [show nk - k = 0 by omega, kdF] at this
          exact this.symm
        clear S
        go_wp2
        go_ret
        exact ⟨ret_int (by rw [hR.out, S2.out]; rfl), GT.out.trans G.out⟩
end Go.Proofs.Ytfiaongnogiegaa
