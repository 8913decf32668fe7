/- What Validate of package theme and of its reference returns, at every row of at most 120 tokens with names shorter than 2^62 bytes. -/
import Derived.Test.YtpdjgmfccolgjaaThG
namespace Go.Proofs.Ytpdjgmfccolgjaa
open Go.RowKit Go.Sort Go.Maps
open Go.ChangeMaps (setBlock)
set_option linter.unusedVariables false
set_option linter.unusedSimpArgs false

set_option maxHeartbeats 8000000 in
theorem rValidate_core (p : Option Addr) (n c : Nat) (x : Nat → Tk) (w : World) (H : SRow w p n 5 (tkC x)) (hn : n ≤ 120) (hs : ∀ k, k < n → (x k).nm.size ≤ 9223372036854775807) (V : Int) (hV : vldF x n = V) :
    Calls Try.prog 11 #[.agg #[.slice p n c]] w fun e w' => e = .returned (.int .i64 V) ∧ Grew w w' := by
  have HA := hide H
  have HS := hide hs
  obtain ⟨b0, hb0⟩ : ∃ b0, b0 = w.heap.size := ⟨_, rfl⟩
  have hw : Hid (w.heap.size ≤ b0) := Nat.le_of_eq hb0.symm
  clear H hs
  unfold vldF at hV
  by_cases h100 : 100 < n
  · have h100z : (100 : Int) < (n : Int) := by omega
    rw [if_pos h100] at hV
    subst hV
    go_enter Try.func11, Try.ntmps11
    go_wp2
    go_ret
    exact ⟨rfl, (Grew.refl w).alloc _⟩
  have h100z : ¬ (100 : Int) < (n : Int) := by omega
  rw [if_neg h100] at hV
  have HV := hide hV
  clear hV
  go_enter Try.func11, Try.ntmps11
  go_wp2
  have GA : Hid (Grew w (w.alloc (.cells #[.slice p n c] 24))) := (Grew.refl w).alloc _
  have BA : Hid (Blk (w.alloc (.cells #[.slice p n c] 24)) b0 24 [.slice p n c]) := Blk.new hb0
  rw [← hb0]
  clear hb0
  generalize (w.alloc (.cells #[.slice p n c] 24)) = w1 at *
  go_loopg [3] (n + 1) (fun gh vk wr => ∃ (k : Nat), vk = .int .i64 (k : Int) ∧ k ≤ n ∧ n - k < gh ∧ Hid (Grew w1 wr) ∧ Hid (vdF x k (n - k) = V))
  case atStart => exact ⟨0, by go_num, by omega, by omega, Grew.refl _, HV⟩
  case round =>
    clear HV
    obtain ⟨wo, rfl⟩ : ∃ wo : World, wo = wr := ⟨_, rfl⟩
    obtain ⟨k, rfl, hk, hg, G, S⟩ := hrel
    have a0 := (BA.out.grew G.out).cell 0 rfl
    by_cases hlt : k < n
    · have hltz : (k : Int) < (n : Int) := by omega
      obtain ⟨b, off, rfl, hb, hc⟩ := (HA.out.grew (GA.out.trans G.out)) (by omega)
      have c0 : wo.cell? ⟨b, off + k * 5, none⟩ = some (.string (x k).nm) := hc k hlt 0 (by decide)
      have c1 : wo.cell? ⟨b, off + k * 5 + 1, none⟩ = some (.int .i64 (x k).l) := hc k hlt 1 (by decide)
      have c2 : wo.cell? ⟨b, off + k * 5 + 2, none⟩ = some (.int .i64 (x k).d) := hc k hlt 2 (by decide)
      have c3 : wo.cell? ⟨b, off + k * 5 + 3, none⟩ = some (.int .i64 (x k).h) := hc k hlt 3 (by decide)
      have c4 : wo.cell? ⟨b, off + k * 5 + 4, none⟩ = some (.int .i64 (x k).g) := hc k hlt 4 (by decide)
      have S' : Hid ((if nmB (x k).nm then (if anyF x (x k).nm 0 k then 6 else if valB (x k) then vdF x (k + 1) (n - (k + 1)) else 1) else 4) = V) := by
        have := S.out
        rwa [show n - k = n - (k + 1) + 1 by omega, vdF] at this
      have KN := fun W => hide (rName_any (x k).nm W (HS.out k hlt))
      have W0 := fun W => hide (rvalue_any (x k).l W)
      have W1 := fun W => hide (rvalue_any (x k).d W)
      have W2 := fun W => hide (rvalue_any (x k).h W)
      have W3 := fun W => hide (rvalue_any (x k).g W)
      have hvr : valB (x k) = (wiB (x k).l && wiB (x k).d && wiB (x k).h && wiB (x k).g) := rfl
      rw [hvr] at S'
      clear hc hb S hvr
      generalize x k = t at *
      obtain ⟨tn, tl, td, th, tg⟩ := t
      dsimp only [Tk.v] at *
      generalize wiB tl = v0 at *
      generalize wiB td = v1 at *
      generalize wiB th = v2 at *
      generalize wiB tg = v3 at *
      generalize nmB tn = vn at *
      generalize hD : anyF x tn 0 k = vd at *
      have GO : Hid (∀ o, Grew w1 (wo.alloc o)) := fun o => G.out.alloc o
      have BT : Hid (Blk (wo.alloc (.cells #[.string tn, .int .i64 tl, .int .i64 td, .int .i64 th, .int .i64 tg] 29)) wo.heap.size 29 [.string tn, .int .i64 tl, .int .i64 td, .int .i64 th, .int .i64 tg]) := Blk.new rfl
      go_wp2_with fail
      refine (KN _).out.mono ?_
      rintro e w' ⟨rfl, rfl⟩
      clear KN
      cases vn
      · have S2 : Hid (4 = V) := S'.out
        go_wp2
        go_ret
        exact ⟨ret_int S2.out, GA.out.trans (GO.out _)⟩
      have S2 : Hid ((if vd then 6 else if (v0 && v1 && v2 && v3) then vdF x (k + 1) (n - (k + 1)) else 1) = V) := S'.out
      clear S' c0 c1 c2 c3 c4 a0
      have G2 := hide (GO.out (.cells #[.string tn, .int .i64 tl, .int .i64 td, .int .i64 th, .int .i64 tg] 29))
      clear GO G
      obtain ⟨tb, htb⟩ : ∃ tb, tb = wo.heap.size := ⟨_, rfl⟩
      rw [← htb] at BT ⊢
      clear htb
      generalize (wo.alloc (.cells #[.string tn, .int .i64 tl, .int .i64 td, .int .i64 th, .int .i64 tg] 29)) = w2 at *
      have HD := hide hD
      clear hD
      go_wp2
      go_loopg [5] (k + 1) (fun gh vj wr => ∃ (j : Nat), vj = .int .i64 (j : Int) ∧ j ≤ k ∧ k - j < gh ∧ Hid (Grew w2 wr) ∧ Hid (anyF x tn j (k - j) = vd))
      case atStart => exact ⟨0, by go_num, by omega, by omega, Grew.refl _, HD⟩
      case round =>
        clear HD
        obtain ⟨wi, rfl⟩ : ∃ wi : World, wi = wr := ⟨_, rfl⟩
        obtain ⟨j, rfl, hj, hgj, GI, SI⟩ := hrel
        have BT2 := hide (BT.out.grew GI.out)
        have BA2 := hide (BA.out.grew (G2.out.trans GI.out))
        have GW := hide (G2.out.trans GI.out)
        by_cases hjk : j < k
        · have hjkz : (j : Int) < (k : Int) := by omega
          have hjnz : (j : Int) < (n : Int) := by omega
          have hj0 : (0 : Int) ≤ (j : Int) := by omega
          obtain ⟨b', off', e1, hb', hc'⟩ := (HA.out.grew (GA.out.trans GW.out)) (by omega)
          simp only [Option.some.injEq, Addr.mk.injEq, and_true] at e1
          obtain ⟨rfl, rfl⟩ := e1
          have d0 : wi.cell? ⟨b, off + j * 5, none⟩ = some (.string (x j).nm) := hc' j (by omega) 0 (by decide)
          have a0 := BA2.out.cell 0 rfl
          have t0 := BT2.out.cell 0 rfl
          have SJ : Hid ((decide ((x j).nm = tn) || anyF x tn (j + 1) (k - (j + 1))) = vd) := by
            have := SI.out
            rwa [show k - j = k - (j + 1) + 1 by omega, anyF] at this
          clear hc' hb' SI
          by_cases he : (x j).nm = tn
          · have hel := list_same he
            have SK : vd = true := by have := SJ.out; rw [decide_eq_true he, Bool.true_or] at this; exact this.symm
            subst SK
            have S3 : Hid (6 = V) := S2.out
            generalize (x j).nm = xj at *
            subst he
            go_wp2
            go_quiet (fail)
            go_wp2
            go_ret
            exact ⟨ret_int S3.out, (GA.out.trans GW.out).trans (by repeat' (first | (with_reducible exact Grew.refl _) | (with_reducible refine Grew.drewN ?_ _)))⟩
          · have hel := list_apart he
            have SK : Hid (anyF x tn (j + 1) (k - (j + 1)) = vd) := by have := SJ.out; rwa [decide_eq_false he, Bool.false_or] at this
            clear SJ
            generalize (x j).nm = xj at *
            go_wp2
            go_quiet (fail)
            go_wp2
            go_roundg (k - j)
            case measure => omega
            case rel => exact ⟨j + 1, by go_num, by omega, by omega, hide (GI.out.drewN _), SK⟩
        · have hjkz : ¬ (j : Int) < (k : Int) := by omega
          have SK : vd = false := by
            have := SI.out
            rw [show k - j = 0 by omega, anyF] at this
            exact this.symm
          subst SK
          have S3 : Hid ((if (v0 && v1 && v2 && v3) then vdF x (k + 1) (n - (k + 1)) else 1) = V) := S2.out
          clear S2 SI
          have t1 := BT2.out.cell 1 rfl
          have t2 := BT2.out.cell 2 rfl
          have t3 := BT2.out.cell 3 rfl
          have t4 := BT2.out.cell 4 rfl
          cases v0
          · have S4 : Hid (1 = V) := hide (by simpa using S3.out)
            go_wp2_with fail
            refine (W0 _).out.mono ?_
            rintro e w' ⟨rfl, rfl⟩
            go_wp2
            go_ret
            exact ⟨ret_int S4.out, GA.out.trans GW.out⟩
          cases v1
          · have S4 : Hid (1 = V) := hide (by simpa using S3.out)
            go_wp2_with fail
            refine (W0 _).out.mono ?_
            rintro e w' ⟨rfl, rfl⟩
            go_wp2_with fail
            refine (W1 _).out.mono ?_
            rintro e w' ⟨rfl, rfl⟩
            go_wp2
            go_ret
            exact ⟨ret_int S4.out, GA.out.trans GW.out⟩
          cases v2
          · have S4 : Hid (1 = V) := hide (by simpa using S3.out)
            go_wp2_with fail
            refine (W0 _).out.mono ?_
            rintro e w' ⟨rfl, rfl⟩
            go_wp2_with fail
            refine (W1 _).out.mono ?_
            rintro e w' ⟨rfl, rfl⟩
            go_wp2_with fail
            refine (W2 _).out.mono ?_
            rintro e w' ⟨rfl, rfl⟩
            go_wp2
            go_ret
            exact ⟨ret_int S4.out, GA.out.trans GW.out⟩
          cases v3
          · have S4 : Hid (1 = V) := hide (by simpa using S3.out)
            go_wp2_with fail
            refine (W0 _).out.mono ?_
            rintro e w' ⟨rfl, rfl⟩
            go_wp2_with fail
            refine (W1 _).out.mono ?_
            rintro e w' ⟨rfl, rfl⟩
            go_wp2_with fail
            refine (W2 _).out.mono ?_
            rintro e w' ⟨rfl, rfl⟩
            go_wp2_with fail
            refine (W3 _).out.mono ?_
            rintro e w' ⟨rfl, rfl⟩
            go_wp2
            go_ret
            exact ⟨ret_int S4.out, GA.out.trans GW.out⟩
          have S4 : Hid (vdF x (k + 1) (n - (k + 1)) = V) := hide (by simpa using S3.out)
          go_wp2_with fail
          refine (W0 _).out.mono ?_
          rintro e w' ⟨rfl, rfl⟩
          go_wp2_with fail
          refine (W1 _).out.mono ?_
          rintro e w' ⟨rfl, rfl⟩
          go_wp2_with fail
          refine (W2 _).out.mono ?_
          rintro e w' ⟨rfl, rfl⟩
          go_wp2_with fail
          refine (W3 _).out.mono ?_
          rintro e w' ⟨rfl, rfl⟩
          go_wp2
          go_roundg (n - k)
          case measure => omega
          case rel => exact ⟨k + 1, by go_num, by omega, by omega, GW, S4⟩
    · have hltz : ¬ (k : Int) < (n : Int) := by omega
      have S2 : Hid (0 = V) := by
        have := S.out
        rwa [show n - k = 0 by omega, vdF] at this
      clear S
      go_wp2
      go_ret
      exact ⟨ret_int S2.out, GA.out.trans G.out⟩
theorem rValidate_any (p : Option Addr) (n c : Nat) (x : Nat → Tk) (w : World) (H : SRow w p n 5 (tkC x)) (hn : n ≤ 120) (hs : ∀ k, k < n → (x k).nm.size ≤ 9223372036854775807) :
    Calls Try.prog 11 #[.agg #[.slice p n c]] w fun e w' => e = .returned (.int .i64 (vldF x n)) ∧ Grew w w' := rValidate_core p n c x w H hn hs _ rfl
end Go.Proofs.Ytpdjgmfccolgjaa
