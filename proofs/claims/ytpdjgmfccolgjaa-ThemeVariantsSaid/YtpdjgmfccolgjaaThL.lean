/- The law ThemeVariants at a list of numbers: it returns true. -/
import Derived.Test.YtpdjgmfccolgjaaThK
import Derived.Test.YtpdjgmfccolgjaaThE
namespace Go.Proofs.Ytpdjgmfccolgjaa
open Go.RowKit Go.Sort
set_option linter.unusedVariables false
set_option linter.unusedSimpArgs false

set_option maxRecDepth 100000 in
set_option maxHeartbeats 16000000 in
theorem variants_core (p : Option Addr) (n0 c0 : Nat) (f : Nat → Int) (w : World) (hnc : n0 ≤ c0) (hr : Reads w p n0 f) (hf : ∀ k, -9223372036854775808 ≤ f k ∧ f k ≤ 9223372036854775807) :
    Calls Try.prog 4 #[.slice p n0 c0] w fun e w' => e = .returned (.bool true) ∧ Below w.heap.size w w' := by
  have K0 := hide (New_any p n0 c0 w hnc (fun h => by obtain ⟨b, off, e, _⟩ := hr h; exact ⟨_, e⟩))
  go_enter Try.func4, Try.ntmps4
  go_wp2_with fail
  refine K0.out.mono ?_
  rintro e w1 ⟨sb, m, c', rfl, G1, hsb, ⟨hm1, hm2⟩, B1⟩
  have S1 : Hid (SR w w1 sb p m c' f) := ⟨G1, hsb, fun h0 => by
    obtain ⟨b, off, e, hc⟩ := hr (by omega)
    exact ⟨b, off, e, fun k hk => hc k (by omega)⟩, hm2, hf, 0, Nat.zero_le _, B1⟩
  have G1 := hide G1
  have hsb := hide hsb
  clear B1 K0 hr
  have K1 := hide (Theme_any w w1 sb m c' p f S1.out)
  go_wp2_with fail
  refine K1.out.mono ?_
  rintro e w2 ⟨q, n, cap, x, rfl, hg, R2, BT⟩
  have HG := hide hg
  have hn3 : n ≤ 3 := hg.le
  have G2 := hide (BT.grew G1.out hsb.out)
  have R2 := hide R2
  clear hg BT K1 S1 G1 hsb
  obtain ⟨tb, htb⟩ : ∃ tb, tb = w2.heap.size := ⟨_, rfl⟩
  have T3 : Hid (Blk (w2.alloc (.cells #[.slice q n cap] 24)) tb 24 [.slice q n cap]) := Blk.new htb
  have G3 : Hid (Grew w (w2.alloc (.cells #[.slice q n cap] 24))) := G2.out.alloc _
  have R3 : Hid (SRow (w2.alloc (.cells #[.slice q n cap] 24)) q n 5 (tkC x)) := R2.out.grew ((Grew.refl w2).alloc _)
  have hsz : Hid (∀ k, k < n → (x k).nm.size ≤ 9223372036854775807) := fun k hk => by rw [HG.out.nm k hk]; exact nmC_sz k
  go_wp2_with fail
  rw [← htb]
  clear htb G2 R2
  generalize (w2.alloc (.cells #[.slice q n cap] 24)) = w3 at *
  have KV := hide (Validate_any q n cap x w3 R3.out (by omega) hsz.out)
  rw [HG.out.valid] at KV
  refine KV.out.mono ?_
  rintro e w4 ⟨rfl, q4⟩
  have G4 := hide (G3.out.trans q4)
  have R4 := hide (R3.out.grew q4)
  have T4 := hide (T3.out.grew q4)
  clear KV q4 G3 R3 T3
  go_wp2
  go_loopg [5] (n + 1) (fun gh vk wr => ∃ (k : Nat), vk = .int .i64 (k : Int) ∧ k ≤ n ∧ n - k < gh ∧ Hid (Grew w4 wr))
  case atStart => exact ⟨0, by go_num, by omega, by omega, Grew.refl _⟩
  case round =>
    obtain ⟨wo, rfl⟩ : ∃ wo : World, wo = wr := ⟨_, rfl⟩
    obtain ⟨k, rfl, hk, hgk, G⟩ := hrel
    have TO := hide (T4.out.grew G.out)
    have t0 := TO.out.cell 0 rfl
    by_cases hlt : k < n
    · have hltz : (k : Int) < (n : Int) := by omega
      have hk0 : (0 : Int) ≤ (k : Int) := by omega
      obtain ⟨b, off, rfl, hb, hc⟩ := (R4.out.grew G.out) (by omega)
      have c0 : wo.cell? ⟨b, off + k * 5, none⟩ = some (.string (x k).nm) := hc k hlt 0 (by decide)
      have c1 : wo.cell? ⟨b, off + k * 5 + 1, none⟩ = some (.int .i64 (x k).l) := hc k hlt 1 (by decide)
      have c2 : wo.cell? ⟨b, off + k * 5 + 2, none⟩ = some (.int .i64 (x k).d) := hc k hlt 2 (by decide)
      have c3 : wo.cell? ⟨b, off + k * 5 + 3, none⟩ = some (.int .i64 (x k).h) := hc k hlt 3 (by decide)
      have c4 : wo.cell? ⟨b, off + k * 5 + 4, none⟩ = some (.int .i64 (x k).g) := hc k hlt 4 (by decide)
      have K0 := fun W (h : Grew w4 W) => hide (Lookup_any (some ⟨b, off, none⟩) n cap x false false 0 (x k).nm W (R4.out.grew h) (by omega))
      rw [HG.out.found hlt false false] at K0
      have K1 := fun W (h : Grew w4 W) => hide (Lookup_any (some ⟨b, off, none⟩) n cap x true false 0 (x k).nm W (R4.out.grew h) (by omega))
      rw [HG.out.found hlt true false] at K1
      have K2 := fun W (h : Grew w4 W) => hide (Lookup_any (some ⟨b, off, none⟩) n cap x false true 0 (x k).nm W (R4.out.grew h) (by omega))
      rw [HG.out.found hlt false true] at K2
      have K3 := fun W (h : Grew w4 W) => hide (Lookup_any (some ⟨b, off, none⟩) n cap x true true 0 (x k).nm W (R4.out.grew h) (by omega))
      rw [HG.out.found hlt true true] at K3
      simp only [varF, if_true, if_false, Bool.false_eq_true] at K0 K1 K2 K3
      clear hc hb
      generalize x k = t at *
      obtain ⟨tn, tl, td, th, tg⟩ := t
      dsimp only [mdV] at *
      obtain ⟨ub, hub⟩ : ∃ ub, ub = wo.heap.size := ⟨_, rfl⟩
      have U0 : Hid (Blk (wo.alloc (.cells #[.string tn, .int .i64 tl, .int .i64 td, .int .i64 th, .int .i64 tg] 29)) ub 29 [.string tn, .int .i64 tl, .int .i64 td, .int .i64 th, .int .i64 tg]) := Blk.new hub
      have GO : Hid (Grew w4 (wo.alloc (.cells #[.string tn, .int .i64 tl, .int .i64 td, .int .i64 th, .int .i64 tg] 29))) := G.out.alloc _
      have TU := hide (T4.out.grew GO.out)
      have s0 := TU.out.cell 0 rfl
      have u0 := U0.out.cell 0 rfl
      go_wp2_with fail
      rw [← hub]
      clear hub c0 c1 c2 c3 c4 t0 TO G
      generalize (wo.alloc (.cells #[.string tn, .int .i64 tl, .int .i64 td, .int .i64 th, .int .i64 tg] 29)) = v0 at *
      have L0 := (K0 v0 GO.out)
      skip
      refine L0.out.mono ?_
      rintro e v1 ⟨rfl, q0⟩
      have GG1 := hide (GO.out.trans q0)
      have U1 := hide (U0.out.grew q0)
      have TT1 := hide (T4.out.grew GG1.out)
      clear K0 L0 q0 GO TU u0 s0 U0
      have u0 := U1.out.cell 0 rfl
      have s0 := TT1.out.cell 0 rfl
      have L1 := (K1 v1 GG1.out)
      go_wp2_with fail
      refine L1.out.mono ?_
      rintro e v2 ⟨rfl, q1⟩
      have GG2 := hide (GG1.out.trans q1)
      have U2 := hide (U1.out.grew q1)
      have TT2 := hide (T4.out.grew GG2.out)
      clear K1 L1 q1 GG1 TT1 u0 s0 U1
      have u0 := U2.out.cell 0 rfl
      have s0 := TT2.out.cell 0 rfl
      have L2 := (K2 v2 GG2.out)
      go_wp2_with fail
      refine L2.out.mono ?_
      rintro e v3 ⟨rfl, q2⟩
      have GG3 := hide (GG2.out.trans q2)
      have U3 := hide (U2.out.grew q2)
      have TT3 := hide (T4.out.grew GG3.out)
      clear K2 L2 q2 GG2 TT2 u0 s0 U2
      have u0 := U3.out.cell 0 rfl
      have s0 := TT3.out.cell 0 rfl
      have L3 := (K3 v3 GG3.out)
      go_wp2_with fail
      refine L3.out.mono ?_
      rintro e v4 ⟨rfl, q3⟩
      have GG4 := hide (GG3.out.trans q3)
      have U4 := hide (U3.out.grew q3)
      have TT4 := hide (T4.out.grew GG4.out)
      clear K3 L3 q3 GG3 TT3 u0 s0 U3
      have u0 := U4.out.cell 0 rfl
      have s0 := TT4.out.cell 0 rfl
      have u1 := U4.out.cell 1 rfl
      have u2 := U4.out.cell 2 rfl
      have u3 := U4.out.cell 3 rfl
      have u4 := U4.out.cell 4 rfl
      go_wp2
      go_roundg (n - k)
      case measure => omega
      case rel => exact ⟨k + 1, by go_num, by omega, by omega, GG4⟩
    · have hltz : ¬ (k : Int) < (n : Int) := by omega
      have KA := fun W => hide (awake_any W)
      have GF := hide (G4.out.trans G.out)
      go_wp2_with fail
      refine (KA _).out.mono ?_
      rintro e w5 ⟨rfl, q5⟩
      have GE := hide (GF.out.trans q5)
      clear q5 KA
      go_wp2
      go_ret
      exact ⟨rfl, GE.out.below⟩
end Go.Proofs.Ytpdjgmfccolgjaa
