/- The law BidiPlain returns true for every slice of integers, and leaves the argument and all old memory as they were; no condition. -/
import Derived.Test.YtdkmjhbkjhikfaaRows
import Derived.Test.YtdkmjhbkjhikfaaBdY
import Derived.WalkKit
import Derived.ProofKit
import Derived.OpenShut
namespace Go.Proofs.Ytdkmjhbkjhikfaa.bidiPlain
open Go.ChangeShapes Go.WideShapes Go.ChangeAt Go.RowKit
set_option linter.unusedVariables false

set_option maxRecDepth 100000 in
set_option maxHeartbeats 8000000 in
theorem walk_main (p : Option Addr) (n c : Nat) (f : Nat → Int) (w : World) (hnc : n ≤ c) (hn : n ≤ 9223372036854775807) (hr : Reads w p n f) :
    Calls Try.prog 4 #[.slice p n c] w fun e w' => e = .returned (.bool true) ∧ Below w.heap.size w w' := by
  obtain ⟨i1, ri, rz0, rz1, rz2⟩ := info_parts info_rune
  have HR := hide hr
  obtain ⟨B, hB⟩ : ∃ B, B = w.heap.size := ⟨_, rfl⟩
  have A1 : Hid (Blk (w.alloc (.cells [.int .i32 97, .int .i32 98, .int .i32 32, .int .i32 49, .int .i32 46, .int .i32 122].toArray 21)) B 21 [.int .i32 97, .int .i32 98, .int .i32 32, .int .i32 49, .int .i32 46, .int .i32 122]) := Blk.new hB
  have G1 : Hid (Grew w (w.alloc (.cells [.int .i32 97, .int .i32 98, .int .i32 32, .int .i32 49, .int .i32 46, .int .i32 122].toArray 21))) := (Grew.refl w).alloc _
  have KN := fun W => hide (New_any p n c W hnc (fun h => by obtain ⟨b, off, e, _⟩ := hr h; exact ⟨_, e⟩))
  clear hr hnc
  go_enter Try.func4, Try.ntmps4
  go_wp2_with fail
  rw [← hB]
  have hBw := hide (Nat.le_of_eq hB.symm)
  clear hB
  generalize w.alloc (.cells [.int .i32 97, .int .i32 98, .int .i32 32, .int .i32 49, .int .i32 46, .int .i32 122].toArray 21) = w1 at *
  refine (KN _).out.mono ?_
  rintro e w2 ⟨sb, m, c', rfl, G2, hsb, ⟨hmn, hm4⟩, S2⟩
  have A2 := hide (A1.out.grew G2)
  have GG := hide (G1.out.trans G2)
  have hsbw : Hid (w.heap.size ≤ sb) := Nat.le_trans G1.out.size hsb
  have hBs : Hid (B ≠ sb) := by show B ≠ sb; have := A1.out.lt; omega
  have hsl := hide S2.lt
  have HRm : Hid (∀ W, Grew w W → Reads W p m f) := fun W g hm => by
    obtain ⟨b, off, e, hc⟩ := (HR.out.grew g) (by omega)
    exact ⟨b, off, e, fun k hk => hc k (by omega)⟩
  have S0 : Hid (PF sb m c' p w2 0 (.slice none 0 0) w2) := ⟨But.refl _ _, ⟨0, Nat.le_refl _, S2⟩, fun _ => rfl, fun _ => 0, World.ownsRow_nil _ _ _ _, fun j h => by omega⟩
  clear G2 S2 hsb A1 G1 KN
  go_wp2
  go_loopg [5, 6] 41 (fun gh vv vk wr => ∃ (k : Nat) (v : Value), vk = .int .i64 (k : Int) ∧ v = vv ∧ k ≤ n ∧ k ≤ 40 ∧ 40 - k < gh ∧ Hid (PF sb m c' p w2 k v wr))
  case atStart => exact ⟨0, _, by go_num, rfl, by omega, by omega, by omega, S0⟩
  case round =>
    clear S0
    obtain ⟨wo, rfl⟩ : ∃ wo : World, wo = wr := ⟨_, rfl⟩
    obtain ⟨k, v, rfl, rfl, hkn, hk40, hg, S⟩ := hrel
    by_cases hlt : k < n ∧ k < 40
    · have hltz : (k : Int) < (n : Int) := by omega
      have hltz2 : (k : Int) < 40 := by omega
      obtain ⟨s1, ⟨t', ht', s2⟩, s3, tx, s4, s5⟩ := S.out
      have KS := hide (N_six sb m c' t' p f wo s2 (HRm.out wo (s1.grew GG.out hsbw.out)) hm4 (by omega))
      have A3 := hide (s1.blk A2.out hBs.out)
      have own := hide s4
      have hsz := hide s1.size
      have T1 := hide s1
      have T5 := hide s5
      clear s1 s2 s3 s4 s5
      go_wp2_with fail
      refine KS.out.mono ?_
      rintro e w3 ⟨x, rfl, hx, b3, t2, ht2, S3⟩
      have A4 := b3.blk A3.out hBs.out
      have cx : w3.cell? ⟨B, x, none⟩ = some (.int .i32 (al x)) := by
        rcases (show x = 0 ∨ x = 1 ∨ x = 2 ∨ x = 3 ∨ x = 4 ∨ x = 5 by omega) with rfl | rfl | rfl | rfl | rfl | rfl
        · exact A4.cell 0 rfl
        · exact A4.cell 1 rfl
        · exact A4.cell 2 rfl
        · exact A4.cell 3 rfl
        · exact A4.cell 4 rfl
        · exact A4.cell 5 rfl
      have x0 : (0 : Int) ≤ (x : Int) := by omega
      have x6 : (x : Int) < 6 := by omega
      have own3 := hide (fun xs (h : wo.ownsRow w2.heap.size 21 1 v k xs) => own_move (w' := w3) h (fun b hb => b3.block b (h.lt b hb).2 (by have := (h.lt b hb).1; have := hsl.out; omega)))
      have own3' := hide (own3.out _ own.out)
      have hsz3 : Hid (w2.heap.size ≤ w3.heap.size) := Nat.le_trans hsz.out b3.size
      have NXT := hide (fun w4 v' h1 h2 h3 => PF.next (w1 := w4) (v' := v') T1.out own.out T5.out b3 (show t2 ≤ k + 1 by omega) S3 hx hsl.out h1 h2 h3)
      clear S A4 b3 S3 KS A3
      go_wp2_with (at_builtin; refine wpList_append_drawn2 _ rfl _ _ 23 rfl w2.heap.size 21 i1 (.int .i32 0) 1 4 Try.underlying23 ri rz0 rz1 rz2 rfl (by decide) v _ (rvals k tx) rfl (own3'.out.alloc _) ⟨w3.heap.size, 0, none⟩ 1 1 [.int .i32 (al x)] rfl (by decide) rfl ?c1 ?c2 ?c3 ?c4 ?c5 ?_)
      case c1 =>
        intro j u hj
        match j, hj with
        | 0, hj => simp at hj; subst hj; exact (Blk.new (W := w3) (b := w3.heap.size) (T := 21) (vs := [.int .i32 (al x)]) rfl).cell 0 rfl
      case c2 => intro u hu; simp at hu; subst hu; rfl
      case c3 => unfold maxLen; omega
      case c4 => omega
      case c5 => have := hsz3.out; simp; omega
      · intro v' w4 hown' hgrow hd _
        have NX := hide (NXT.out w4 v' hown' hgrow hd)
        clear hown' hgrow hd NXT own3 own3' own
        go_wp2
        go_roundg (40 - k)
        case measure => omega
        case rel => exact ⟨k + 1, v', by go_num, rfl, by omega, by omega, by omega, NX⟩
    · by_cases hkn' : k < n
      · have hltz : (k : Int) < (n : Int) := by omega
        have hltz2 : ¬ (k : Int) < 40 := by omega
        have GW := hide (S.out.1.grew GG.out hsbw.out)
        by_cases hk0 : k = 0
        · exact absurd hk0 (by omega)
        · obtain ⟨tb, cap, tx, rfl, htb, hcell, hal⟩ := S.out.text (by omega)
          have HT := hide hcell
          have HTB := hide htb
          have HA := hide (fun j (hj : j < k) => (hal j hj).facts)
          have K1 := hide (levels_any tb 0 cap k 0 0 tx wo hcell htb (fun j hj => (HA.out j hj).2.2) (by omega) (by omega) (Or.inl rfl) (fun j hj => by
            have := (HA.out j hj).1; show Sm (cls (tx j)).d; unfold Sm; omega) (fun j hj _ => (HA.out j hj).2.1) (fun W _ => (Base_dir _ 0 W (Or.inl rfl)).mono fun _ _ ⟨h1, h2⟩ => ⟨h1, h2 ▸ Grew.refl _⟩))
          clear hcell htb hal S
          go_wp2_with fail
          refine K1.out.mono ?_
          rintro e w5 ⟨lb1, f1, rfl, G5, hlb1, R1, L1⟩
          have G5' := hide G5
          have R1' := hide R1
          have L1' := hide (left_zero L1 (fun j hj => (HA.out j hj).1))
          have K2 := hide (levels_any tb 0 cap k 1 1 tx w5 (fun j hj => (G5.1.cell (p := ⟨tb, 0 + j, none⟩) HTB.out).trans (HT.out j hj)) (Nat.lt_of_lt_of_le HTB.out G5.size) (fun j hj => (HA.out j hj).2.2) (by omega) (by omega) (Or.inr rfl) (fun j hj => by
            have := (HA.out j hj).1; show Sm (cls (tx j)).d; unfold Sm; omega) (fun j hj _ => (HA.out j hj).2.1) (fun W _ => (Base_dir _ 1 W (Or.inr rfl)).mono fun _ _ ⟨h1, h2⟩ => ⟨h1, h2 ▸ Grew.refl _⟩))
          clear G5 R1 L1 K1 hlb1
          go_wp2_with fail
          refine K2.out.mono ?_
          rintro e w6 ⟨lb2, f2, rfl, G6, hlb2, R2, L2⟩
          have G6' := hide (G5'.out.trans G6)
          have R1'' := hide (R1'.out.grew G6)
          have R2' := hide R2
          have L2' := hide (right_two L2 (fun j hj => (HA.out j hj).1))
          clear G6 R2 L2 K2 hlb2 R1' G5'
          go_wp2
          go_loopg [9] (k + 1) (fun gh vj wr => ∃ (j : Nat), vj = .int .i64 (j : Int) ∧ j ≤ k ∧ k - j < gh ∧ Hid (Grew w6 wr))
          case atStart => exact ⟨0, by go_num, by omega, by omega, Grew.refl _⟩
          case round =>
            obtain ⟨wq, rfl⟩ : ∃ wq : World, wq = wr := ⟨_, rfl⟩
            obtain ⟨j, rfl, hj, hgj, gq⟩ := hrel
            by_cases hjk : j < k
            · have hjz : (j : Int) < (k : Int) := by omega
              have hl := L1'.out j hjk
              obtain ⟨h12, hst⟩ := L2'.out j hjk
              have hcl := (HA.out j hjk).1
              have KB := fun W => hide (Bidi_any (tx j) W (HA.out j hjk).2.2)
              have C1 : Hid (∀ W, Grew w6 W → W.cell? ⟨lb1, j, none⟩ = some (.int .i64 0)) := fun W g => by rw [← hl]; exact (R1''.out.grew g).cell hjk
              have C2 : Hid (∀ W, Grew w6 W → W.cell? ⟨lb2, j, none⟩ = some (.int .i64 (f2 j))) := fun W g => (R2'.out.grew g).cell hjk
              have CT : Hid (∀ W, Grew w6 W → W.cell? ⟨tb, j, none⟩ = some (.int .i32 (tx j))) := fun W g => by
                have := ((G6'.out.trans g).1.cell (p := ⟨tb, 0 + j, none⟩) HTB.out).trans (HT.out j hjk)
                rwa [Nat.zero_add] at this
              clear hl
              generalize hr2 : f2 j = r at *
              clear hr2
              rcases hcl with e | e | e | e
              · have er := hst (Or.inl e)
                rw [show (cls (tx j)).d = 0 from e] at KB
                have c1 := C1.out wq gq.out
                have c2 := C2.out wq gq.out
                have ck := CT.out wq gq.out
                go_wp2_with fail
                refine (KB _).out.mono ?_
                rintro e w8 ⟨rfl, q0⟩
                have g0 := hide (gq.out.trans q0)
                clear q0
                have c1_0 := C1.out _ g0.out
                have c2_0 := C2.out _ g0.out
                have ck_0 := CT.out _ g0.out
                rw [er] at c2_0
                go_wp2
                go_roundg (k - j)
                case measure => omega
                case rel => exact ⟨j + 1, by go_num, by omega, by omega, g0⟩
              · have er := hst (Or.inr e)
                rw [show (cls (tx j)).d = 3 from e] at KB
                have c1 := C1.out wq gq.out
                have c2 := C2.out wq gq.out
                have ck := CT.out wq gq.out
                go_wp2_with fail
                refine (KB _).out.mono ?_
                rintro e w8 ⟨rfl, q0⟩
                have g0 := hide (gq.out.trans q0)
                clear q0
                have c1_0 := C1.out _ g0.out
                have c2_0 := C2.out _ g0.out
                have ck_0 := CT.out _ g0.out
                rw [er] at c2_0
                go_wp2_with fail
                refine (KB _).out.mono ?_
                rintro e w9 ⟨rfl, q1⟩
                have g1 := hide (g0.out.trans q1)
                clear q1
                have c1_1 := C1.out _ g1.out
                have c2_1 := C2.out _ g1.out
                have ck_1 := CT.out _ g1.out
                rw [er] at c2_1
                go_wp2
                go_roundg (k - j)
                case measure => omega
                case rel => exact ⟨j + 1, by go_num, by omega, by omega, g1⟩
              · rcases h12 with er | er
                · rw [show (cls (tx j)).d = 7 from e] at KB
                  have c1 := C1.out wq gq.out
                  have c2 := C2.out wq gq.out
                  have ck := CT.out wq gq.out
                  go_wp2_with fail
                  refine (KB _).out.mono ?_
                  rintro e w8 ⟨rfl, q0⟩
                  have g0 := hide (gq.out.trans q0)
                  clear q0
                  have c1_0 := C1.out _ g0.out
                  have c2_0 := C2.out _ g0.out
                  have ck_0 := CT.out _ g0.out
                  rw [er] at c2_0
                  go_wp2_with fail
                  refine (KB _).out.mono ?_
                  rintro e w9 ⟨rfl, q1⟩
                  have g1 := hide (g0.out.trans q1)
                  clear q1
                  have c1_1 := C1.out _ g1.out
                  have c2_1 := C2.out _ g1.out
                  have ck_1 := CT.out _ g1.out
                  rw [er] at c2_1
                  go_wp2
                  go_roundg (k - j)
                  case measure => omega
                  case rel => exact ⟨j + 1, by go_num, by omega, by omega, g1⟩
                · rw [show (cls (tx j)).d = 7 from e] at KB
                  have c1 := C1.out wq gq.out
                  have c2 := C2.out wq gq.out
                  have ck := CT.out wq gq.out
                  go_wp2_with fail
                  refine (KB _).out.mono ?_
                  rintro e w8 ⟨rfl, q0⟩
                  have g0 := hide (gq.out.trans q0)
                  clear q0
                  have c1_0 := C1.out _ g0.out
                  have c2_0 := C2.out _ g0.out
                  have ck_0 := CT.out _ g0.out
                  rw [er] at c2_0
                  go_wp2_with fail
                  refine (KB _).out.mono ?_
                  rintro e w9 ⟨rfl, q1⟩
                  have g1 := hide (g0.out.trans q1)
                  clear q1
                  have c1_1 := C1.out _ g1.out
                  have c2_1 := C2.out _ g1.out
                  have ck_1 := CT.out _ g1.out
                  rw [er] at c2_1
                  go_wp2
                  go_roundg (k - j)
                  case measure => omega
                  case rel => exact ⟨j + 1, by go_num, by omega, by omega, g1⟩
              · rcases h12 with er | er
                · rw [show (cls (tx j)).d = 12 from e] at KB
                  have c1 := C1.out wq gq.out
                  have c2 := C2.out wq gq.out
                  have ck := CT.out wq gq.out
                  go_wp2_with fail
                  refine (KB _).out.mono ?_
                  rintro e w8 ⟨rfl, q0⟩
                  have g0 := hide (gq.out.trans q0)
                  clear q0
                  have c1_0 := C1.out _ g0.out
                  have c2_0 := C2.out _ g0.out
                  have ck_0 := CT.out _ g0.out
                  rw [er] at c2_0
                  go_wp2_with fail
                  refine (KB _).out.mono ?_
                  rintro e w9 ⟨rfl, q1⟩
                  have g1 := hide (g0.out.trans q1)
                  clear q1
                  have c1_1 := C1.out _ g1.out
                  have c2_1 := C2.out _ g1.out
                  have ck_1 := CT.out _ g1.out
                  rw [er] at c2_1
                  go_wp2
                  go_roundg (k - j)
                  case measure => omega
                  case rel => exact ⟨j + 1, by go_num, by omega, by omega, g1⟩
                · rw [show (cls (tx j)).d = 12 from e] at KB
                  have c1 := C1.out wq gq.out
                  have c2 := C2.out wq gq.out
                  have ck := CT.out wq gq.out
                  go_wp2_with fail
                  refine (KB _).out.mono ?_
                  rintro e w8 ⟨rfl, q0⟩
                  have g0 := hide (gq.out.trans q0)
                  clear q0
                  have c1_0 := C1.out _ g0.out
                  have c2_0 := C2.out _ g0.out
                  have ck_0 := CT.out _ g0.out
                  rw [er] at c2_0
                  go_wp2_with fail
                  refine (KB _).out.mono ?_
                  rintro e w9 ⟨rfl, q1⟩
                  have g1 := hide (g0.out.trans q1)
                  clear q1
                  have c1_1 := C1.out _ g1.out
                  have c2_1 := C2.out _ g1.out
                  have ck_1 := CT.out _ g1.out
                  rw [er] at c2_1
                  go_wp2
                  go_roundg (k - j)
                  case measure => omega
                  case rel => exact ⟨j + 1, by go_num, by omega, by omega, g1⟩
            · have hjz : ¬ (j : Int) < (k : Int) := by omega
              have GF := hide ((GW.out.trans G6'.out).trans gq.out)
              go_wp2_with fail
              refine (awake_any _).mono ?_
              rintro e w9 ⟨rfl, G9⟩
              have G9' := hide (GF.out.trans G9)
              clear G9
              go_wp2
              go_ret
              exact ⟨rfl, G9'.out.1⟩
      · have hltz : ¬ (k : Int) < (n : Int) := by omega
        have GW := hide (S.out.1.grew GG.out hsbw.out)
        by_cases hk0 : k = 0
        · have ev := S.out.2.2.1 hk0
          subst ev
          subst hk0
          clear S
          have KZ0 := fun W => hide (levels_zero 0 W (Or.inl rfl))
          have KZ1 := fun W => hide (levels_zero 1 W (Or.inr rfl))
          go_wp2_with fail
          refine (KZ0 _).out.mono ?_
          rintro e w5 ⟨lb1, rfl, G5⟩
          have G5' := hide (GW.out.trans G5)
          clear G5
          go_wp2_with fail
          refine (KZ1 _).out.mono ?_
          rintro e w6 ⟨lb2, rfl, G6⟩
          have G6' := hide (G5'.out.trans G6)
          clear G6 KZ0 KZ1
          go_wp2
          refine wp_loop_rounds 1 ?_
          rw [rounds_succ]
          go_wp2_with fail
          refine (awake_any _).mono ?_
          rintro e w7 ⟨rfl, G7⟩
          have G7' := hide (G6'.out.trans G7)
          clear G7
          go_wp2
          go_ret
          exact ⟨rfl, G7'.out.1⟩
        · obtain ⟨tb, cap, tx, rfl, htb, hcell, hal⟩ := S.out.text (by omega)
          have HT := hide hcell
          have HTB := hide htb
          have HA := hide (fun j (hj : j < k) => (hal j hj).facts)
          have K1 := hide (levels_any tb 0 cap k 0 0 tx wo hcell htb (fun j hj => (HA.out j hj).2.2) (by omega) (by omega) (Or.inl rfl) (fun j hj => by
            have := (HA.out j hj).1; show Sm (cls (tx j)).d; unfold Sm; omega) (fun j hj _ => (HA.out j hj).2.1) (fun W _ => (Base_dir _ 0 W (Or.inl rfl)).mono fun _ _ ⟨h1, h2⟩ => ⟨h1, h2 ▸ Grew.refl _⟩))
          clear hcell htb hal S
          go_wp2_with fail
          refine K1.out.mono ?_
          rintro e w5 ⟨lb1, f1, rfl, G5, hlb1, R1, L1⟩
          have G5' := hide G5
          have R1' := hide R1
          have L1' := hide (left_zero L1 (fun j hj => (HA.out j hj).1))
          have K2 := hide (levels_any tb 0 cap k 1 1 tx w5 (fun j hj => (G5.1.cell (p := ⟨tb, 0 + j, none⟩) HTB.out).trans (HT.out j hj)) (Nat.lt_of_lt_of_le HTB.out G5.size) (fun j hj => (HA.out j hj).2.2) (by omega) (by omega) (Or.inr rfl) (fun j hj => by
            have := (HA.out j hj).1; show Sm (cls (tx j)).d; unfold Sm; omega) (fun j hj _ => (HA.out j hj).2.1) (fun W _ => (Base_dir _ 1 W (Or.inr rfl)).mono fun _ _ ⟨h1, h2⟩ => ⟨h1, h2 ▸ Grew.refl _⟩))
          clear G5 R1 L1 K1 hlb1
          go_wp2_with fail
          refine K2.out.mono ?_
          rintro e w6 ⟨lb2, f2, rfl, G6, hlb2, R2, L2⟩
          have G6' := hide (G5'.out.trans G6)
          have R1'' := hide (R1'.out.grew G6)
          have R2' := hide R2
          have L2' := hide (right_two L2 (fun j hj => (HA.out j hj).1))
          clear G6 R2 L2 K2 hlb2 R1' G5'
          go_wp2
          go_loopg [9] (k + 1) (fun gh vj wr => ∃ (j : Nat), vj = .int .i64 (j : Int) ∧ j ≤ k ∧ k - j < gh ∧ Hid (Grew w6 wr))
          case atStart => exact ⟨0, by go_num, by omega, by omega, Grew.refl _⟩
          case round =>
            obtain ⟨wq, rfl⟩ : ∃ wq : World, wq = wr := ⟨_, rfl⟩
            obtain ⟨j, rfl, hj, hgj, gq⟩ := hrel
            by_cases hjk : j < k
            · have hjz : (j : Int) < (k : Int) := by omega
              have hl := L1'.out j hjk
              obtain ⟨h12, hst⟩ := L2'.out j hjk
              have hcl := (HA.out j hjk).1
              have KB := fun W => hide (Bidi_any (tx j) W (HA.out j hjk).2.2)
              have C1 : Hid (∀ W, Grew w6 W → W.cell? ⟨lb1, j, none⟩ = some (.int .i64 0)) := fun W g => by rw [← hl]; exact (R1''.out.grew g).cell hjk
              have C2 : Hid (∀ W, Grew w6 W → W.cell? ⟨lb2, j, none⟩ = some (.int .i64 (f2 j))) := fun W g => (R2'.out.grew g).cell hjk
              have CT : Hid (∀ W, Grew w6 W → W.cell? ⟨tb, j, none⟩ = some (.int .i32 (tx j))) := fun W g => by
                have := ((G6'.out.trans g).1.cell (p := ⟨tb, 0 + j, none⟩) HTB.out).trans (HT.out j hjk)
                rwa [Nat.zero_add] at this
              clear hl
              generalize hr2 : f2 j = r at *
              clear hr2
              rcases hcl with e | e | e | e
              · have er := hst (Or.inl e)
                rw [show (cls (tx j)).d = 0 from e] at KB
                have c1 := C1.out wq gq.out
                have c2 := C2.out wq gq.out
                have ck := CT.out wq gq.out
                go_wp2_with fail
                refine (KB _).out.mono ?_
                rintro e w8 ⟨rfl, q0⟩
                have g0 := hide (gq.out.trans q0)
                clear q0
                have c1_0 := C1.out _ g0.out
                have c2_0 := C2.out _ g0.out
                have ck_0 := CT.out _ g0.out
                rw [er] at c2_0
                go_wp2
                go_roundg (k - j)
                case measure => omega
                case rel => exact ⟨j + 1, by go_num, by omega, by omega, g0⟩
              · have er := hst (Or.inr e)
                rw [show (cls (tx j)).d = 3 from e] at KB
                have c1 := C1.out wq gq.out
                have c2 := C2.out wq gq.out
                have ck := CT.out wq gq.out
                go_wp2_with fail
                refine (KB _).out.mono ?_
                rintro e w8 ⟨rfl, q0⟩
                have g0 := hide (gq.out.trans q0)
                clear q0
                have c1_0 := C1.out _ g0.out
                have c2_0 := C2.out _ g0.out
                have ck_0 := CT.out _ g0.out
                rw [er] at c2_0
                go_wp2_with fail
                refine (KB _).out.mono ?_
                rintro e w9 ⟨rfl, q1⟩
                have g1 := hide (g0.out.trans q1)
                clear q1
                have c1_1 := C1.out _ g1.out
                have c2_1 := C2.out _ g1.out
                have ck_1 := CT.out _ g1.out
                rw [er] at c2_1
                go_wp2
                go_roundg (k - j)
                case measure => omega
                case rel => exact ⟨j + 1, by go_num, by omega, by omega, g1⟩
              · rcases h12 with er | er
                · rw [show (cls (tx j)).d = 7 from e] at KB
                  have c1 := C1.out wq gq.out
                  have c2 := C2.out wq gq.out
                  have ck := CT.out wq gq.out
                  go_wp2_with fail
                  refine (KB _).out.mono ?_
                  rintro e w8 ⟨rfl, q0⟩
                  have g0 := hide (gq.out.trans q0)
                  clear q0
                  have c1_0 := C1.out _ g0.out
                  have c2_0 := C2.out _ g0.out
                  have ck_0 := CT.out _ g0.out
                  rw [er] at c2_0
                  go_wp2_with fail
                  refine (KB _).out.mono ?_
                  rintro e w9 ⟨rfl, q1⟩
                  have g1 := hide (g0.out.trans q1)
                  clear q1
                  have c1_1 := C1.out _ g1.out
                  have c2_1 := C2.out _ g1.out
                  have ck_1 := CT.out _ g1.out
                  rw [er] at c2_1
                  go_wp2
                  go_roundg (k - j)
                  case measure => omega
                  case rel => exact ⟨j + 1, by go_num, by omega, by omega, g1⟩
                · rw [show (cls (tx j)).d = 7 from e] at KB
                  have c1 := C1.out wq gq.out
                  have c2 := C2.out wq gq.out
                  have ck := CT.out wq gq.out
                  go_wp2_with fail
                  refine (KB _).out.mono ?_
                  rintro e w8 ⟨rfl, q0⟩
                  have g0 := hide (gq.out.trans q0)
                  clear q0
                  have c1_0 := C1.out _ g0.out
                  have c2_0 := C2.out _ g0.out
                  have ck_0 := CT.out _ g0.out
                  rw [er] at c2_0
                  go_wp2_with fail
                  refine (KB _).out.mono ?_
                  rintro e w9 ⟨rfl, q1⟩
                  have g1 := hide (g0.out.trans q1)
                  clear q1
                  have c1_1 := C1.out _ g1.out
                  have c2_1 := C2.out _ g1.out
                  have ck_1 := CT.out _ g1.out
                  rw [er] at c2_1
                  go_wp2
                  go_roundg (k - j)
                  case measure => omega
                  case rel => exact ⟨j + 1, by go_num, by omega, by omega, g1⟩
              · rcases h12 with er | er
                · rw [show (cls (tx j)).d = 12 from e] at KB
                  have c1 := C1.out wq gq.out
                  have c2 := C2.out wq gq.out
                  have ck := CT.out wq gq.out
                  go_wp2_with fail
                  refine (KB _).out.mono ?_
                  rintro e w8 ⟨rfl, q0⟩
                  have g0 := hide (gq.out.trans q0)
                  clear q0
                  have c1_0 := C1.out _ g0.out
                  have c2_0 := C2.out _ g0.out
                  have ck_0 := CT.out _ g0.out
                  rw [er] at c2_0
                  go_wp2_with fail
                  refine (KB _).out.mono ?_
                  rintro e w9 ⟨rfl, q1⟩
                  have g1 := hide (g0.out.trans q1)
                  clear q1
                  have c1_1 := C1.out _ g1.out
                  have c2_1 := C2.out _ g1.out
                  have ck_1 := CT.out _ g1.out
                  rw [er] at c2_1
                  go_wp2
                  go_roundg (k - j)
                  case measure => omega
                  case rel => exact ⟨j + 1, by go_num, by omega, by omega, g1⟩
                · rw [show (cls (tx j)).d = 12 from e] at KB
                  have c1 := C1.out wq gq.out
                  have c2 := C2.out wq gq.out
                  have ck := CT.out wq gq.out
                  go_wp2_with fail
                  refine (KB _).out.mono ?_
                  rintro e w8 ⟨rfl, q0⟩
                  have g0 := hide (gq.out.trans q0)
                  clear q0
                  have c1_0 := C1.out _ g0.out
                  have c2_0 := C2.out _ g0.out
                  have ck_0 := CT.out _ g0.out
                  rw [er] at c2_0
                  go_wp2_with fail
                  refine (KB _).out.mono ?_
                  rintro e w9 ⟨rfl, q1⟩
                  have g1 := hide (g0.out.trans q1)
                  clear q1
                  have c1_1 := C1.out _ g1.out
                  have c2_1 := C2.out _ g1.out
                  have ck_1 := CT.out _ g1.out
                  rw [er] at c2_1
                  go_wp2
                  go_roundg (k - j)
                  case measure => omega
                  case rel => exact ⟨j + 1, by go_num, by omega, by omega, g1⟩
            · have hjz : ¬ (j : Int) < (k : Int) := by omega
              have GF := hide ((GW.out.trans G6'.out).trans gq.out)
              go_wp2_with fail
              refine (awake_any _).mono ?_
              rintro e w9 ⟨rfl, G9⟩
              have G9' := hide (GF.out.trans G9)
              clear G9
              go_wp2
              go_ret
              exact ⟨rfl, G9'.out.1⟩
theorem walk (p : Option Addr) (n c : Nat) (f : Nat → Int) (hc : n ≤ c) (hn : n ≤ 9223372036854775807) {w : World} (hr : Reads w p n f) (hf : ∀ k, -9223372036854775808 ≤ f k ∧ f k ≤ 9223372036854775807) (_ : World) :
    Calls Try.prog 4 #[.slice p n c] w fun e w' => e = .returned (.bool true) ∧ Below w.heap.size w w' := walk_main p n c f w hc hn hr

set_option maxRecDepth 100000 in
theorem lifted (os : Os) (started : os.Started) (H : Type) (enc : TypeId × Value → H) :
    ReturnsInHanded {} Try.checked os 4 .any (Rows.bidiPlainSpec.pre6 enc Try.prog Try.f4 Rows.bidiPlainRow.domain false) (Rows.bidiPlainSpec.post enc Try.prog Try.f4 false true false false) := by
  refine returnsInHanded_of_change (C := Try.checked) own_knob started (by kernel_rfl) Try.func4
    (ChangeSpec.witness6 (enc := enc) (C := Try.checked) false ⟨#[], #[.slice none 0 0], []⟩ 8 (by kernel_rfl) (by kernel_rfl) (by kernel_rfl) (by kernel_rfl)) ?_
  intro W base args ds gs before hval0 hW hcnd _
  have hval : ∀ (j : Nat) t v, Try.f4.params[j]? = some t → args[j]? = some v → Value.okWide Try.prog W .any base t v := hval0
  have hW' := hW
  obtain ⟨p, q, hA0, hV, rfl, hfz, hnd⟩ := hW
  have hA : DataW.TrodAll enc Try.prog W 0 (fun _ => true) true Try.f4.params.toList args.toList ds p := hA0
  have hAk := hA
  rw [Try.params4] at hA hval
  obtain ⟨v0, vs0, d0, ds0, p0, q0, hargs, rfl, rfl, h0, r0⟩ := trodAll_cons hA
  obtain ⟨rfl, rfl, rfl⟩ := trodAll_nil r0
  obtain rfl : args = #[v0] := by cases args; simp_all
  obtain ⟨rfl, rfl⟩ := trodVars_none hV
  obtain ⟨s0, n0, c0, f0, rfl, hc0, hn0, hr0, hf0⟩ := open_slice (hval 0 22 v0 rfl rfl) h0
  clear hA0 hval0
  simp only [List.append_nil] at hW'
  refine (walk s0 n0 c0 f0 hc0 hn0 hr0 hf0 W).mono fun e W' ⟨he, hg⟩ => ?_
  subst he
  have hargs' := kept_all hg _ _ _ _ (by rw [Try.params4]; intro t ht; simp only [List.mem_cons, List.not_mem_nil, or_false] at ht; (repeat' (rcases ht with rfl | ht)); all_goals first | (subst ht; exact ⟨by kernel_rfl, of_decide_eq_true (by kernel_rfl)⟩) | exact ⟨by kernel_rfl, of_decide_eq_true (by kernel_rfl)⟩) hAk (fun x hx => hW'.lt x (by simpa using hx))
  exact ⟨_, rfl, ⟨_, _, _, [], _, [], hW', trodAll_cons_mk (shut_bool Try.underlying4 _) trodAll_mk0, hargs', rfl, World.keptBut_mono (fun p hp => ⟨hp, Or.inr (by simpa using hp)⟩) (hg.frame _), fun h => by cases h⟩⟩

theorem over : Rows.bidiPlainRow.holds Try.pinned (OpenSpec.ofChange Rows.bidiPlainSpec) :=
  OpenClaim.holds_of_wide 4 Try.f4 rfl rfl rfl rfl rfl rfl rfl ⟨rfl, rfl, rfl, rfl, rfl⟩ rfl rfl rfl rfl rfl (by kernel_rfl) Try.func4 (by kernel_rfl)
    (of_decide_eq_true (by kernel_rfl)) (by unfold Func.isWrapper; first | (rw [if_pos (by decide +kernel)]; kernel_rfl) | (rw [if_neg (by decide +kernel)]; exact ⟨rfl, rfl⟩))
    (fun os started H enc _ => lifted os started H enc)

theorem proved : Rows.BidiPlainSaid :=
  over
#print axioms proved
end Go.Proofs.Ytdkmjhbkjhikfaa.bidiPlain
