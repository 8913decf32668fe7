/- What Validate of package theme and of its reference returns, at every row of at most 120 tokens with names shorter than 2^62 bytes. -/
import Derived.Test.YtpdjgmfccolgjaaThG
namespace Go.Proofs.Ytpdjgmfccolgjaa
open Go.RowKit Go.Sort Go.Maps
open Go.ChangeMaps (setBlock)
set_option linter.unusedVariables false
set_option linter.unusedSimpArgs false

set_option maxHeartbeats 8000000 in
theorem Validate_core (p : Option Addr) (n c : Nat) (x : Nat → Tk) (w : World) (H : SRow w p n 5 (tkC x)) (hn : n ≤ 120) (hs : ∀ k, k < n → (x k).nm.size ≤ 9223372036854775807) (V : Int) (hV : vldF x n = V) :
    Calls Try.prog 10 #[.agg #[.slice p n c]] w fun e w' => e = .returned (.int .i64 V) ∧ Grew w w' := by
  have HA := hide H
  have HS := hide hs
  obtain ⟨b0, hb0⟩ : ∃ b0, b0 = w.heap.size := ⟨_, rfl⟩
  have hw : Hid (w.heap.size ≤ b0) := Nat.le_of_eq hb0.symm
  clear H hs
  unfold vldF at hV
  by_cases h100 : 100 < n
  · have h100z : (100 : Int) < (n : Int) := by omega
    rw [if_pos h100] at hV
    subst hV
    go_enter Try.func10, Try.ntmps10
    go_wp2
    go_ret
    exact ⟨rfl, (Grew.refl w).alloc _⟩
  have h100z : ¬ (100 : Int) < (n : Int) := by omega
  rw [if_neg h100] at hV
  have HV := hide hV
  clear hV
  have hmm := @run_makeMap Try.prog
  go_enter Try.func10, Try.ntmps10
  go_wp2
  have GA : Hid (Grew w ((w.alloc (.cells #[.slice p n c] 24)).alloc (.map #[] 0))) := ((Grew.refl w).alloc _).alloc _
  have M0 : Hid (MSet ((w.alloc (.cells #[.slice p n c] 24)).alloc (.map #[] 0)) (b0 + 1) 0 (fun _ => false)) := by
    have := MSet.made (w.alloc (.cells #[.slice p n c] 24))
    rwa [show (w.alloc (.cells #[.slice p n c] 24)).heap.size = b0 + 1 by simp [hb0]] at this
  rw [← hb0]
  clear hb0 hmm
  generalize ((w.alloc (.cells #[.slice p n c] 24)).alloc (.map #[] 0)) = w1 at *
  go_loopg [14] (n + 1) (fun gh vk wr => ∃ (k : Nat), vk = .int .i64 (k : Int) ∧ k ≤ n ∧ n - k < gh ∧ Hid (Grew w wr) ∧ Hid (MSet wr (b0 + 1) k (fun s => anyF x s 0 k)) ∧ Hid (vdF x k (n - k) = V))
  case atStart => exact ⟨0, by go_num, by omega, by omega, GA, M0, HV⟩
  case round =>
    clear HV M0 GA
    obtain ⟨wo, rfl⟩ : ∃ wo : World, wo = wr := ⟨_, rfl⟩
    obtain ⟨k, rfl, hk, hg, G, M, S⟩ := hrel
    by_cases hlt : k < n
    · have hltz : (k : Int) < (n : Int) := by omega
      obtain ⟨b, off, rfl, hb, hc⟩ := (HA.out.grew G.out) (by omega)
      have c0 : wo.cell? ⟨b, off + k * 5, none⟩ = some (.string (x k).nm) := hc k hlt 0 (by decide)
      have c1 : wo.cell? ⟨b, off + k * 5 + 1, none⟩ = some (.int .i64 (x k).l) := hc k hlt 1 (by decide)
      have c2 : wo.cell? ⟨b, off + k * 5 + 2, none⟩ = some (.int .i64 (x k).d) := hc k hlt 2 (by decide)
      have c3 : wo.cell? ⟨b, off + k * 5 + 3, none⟩ = some (.int .i64 (x k).h) := hc k hlt 3 (by decide)
      have c4 : wo.cell? ⟨b, off + k * 5 + 4, none⟩ = some (.int .i64 (x k).g) := hc k hlt 4 (by decide)
      have S' : Hid ((if nmB (x k).nm then (if anyF x (x k).nm 0 k then 6 else if valB (x k) then vdF x (k + 1) (n - (k + 1)) else 1) else 4) = V) := by
        have := S.out
        rwa [show n - k = n - (k + 1) + 1 by omega, vdF] at this
      have HX : Hid (∀ s, anyF x s 0 (k + 1) = (anyF x s 0 k || decide ((x k).nm = s))) := fun s => by
        have := anyF_snoc x s k 0
        rwa [Nat.zero_add] at this
      have KN := fun W => hide (Name_any (x k).nm W (HS.out k hlt))
      have KR := fun W => hide (inRange_any (x k) W)
      have hsz := HS.out k hlt
      clear hc hb S
      generalize x k = t at *
      obtain ⟨tn, tl, td, th, tg⟩ := t
      dsimp only [Tk.v] at *
      generalize hq : valB ⟨tn, tl, td, th, tg⟩ = vr at *
      clear hq
      generalize nmB tn = vn at *
      obtain ⟨Sf, hSf⟩ : ∃ Sf : ByteArray → Bool, ∀ s, Sf s = anyF x s 0 k := ⟨_, fun _ => rfl⟩
      have MS : Hid (MSet wo (b0 + 1) k Sf) := M.out.congr fun s => (hSf s).symm
      have HT := hide hSf
      have hd := hSf tn
      clear M hSf
      generalize anyF x tn 0 k = vd at *
      have GO : Hid (∀ o, Grew w (wo.alloc o)) := fun o => G.out.alloc o
      have MA : Hid (∀ o, MSet (wo.alloc o) (b0 + 1) k Sf) := fun o => MS.out.grew ((Grew.refl wo).alloc o)
      have BT : Hid (Blk (wo.alloc (.cells #[.string tn, .int .i64 tl, .int .i64 td, .int .i64 th, .int .i64 tg] 29)) wo.heap.size 29 [.string tn, .int .i64 tl, .int .i64 td, .int .i64 th, .int .i64 tg]) := Blk.new rfl
      go_wp2_with fail
      refine (KN _).out.mono ?_
      rintro e w' ⟨rfl, rfl⟩
      clear KN
      cases vn
      · have S2 : Hid (4 = V) := S'.out
        go_wp2
        go_ret
        exact ⟨ret_int S2.out, GO.out _⟩
      have S2 : Hid ((if vd then 6 else if vr then vdF x (k + 1) (n - (k + 1)) else 1) = V) := S'.out
      clear S' c0 c1 c2 c3 c4
      have G2 := hide (GO.out (.cells #[.string tn, .int .i64 tl, .int .i64 td, .int .i64 th, .int .i64 tg] 29))
      have M2 := hide (MA.out (.cells #[.string tn, .int .i64 tl, .int .i64 td, .int .i64 th, .int .i64 tg] 29))
      clear GO MA G MS
      obtain ⟨tb, htb⟩ : ∃ tb, tb = wo.heap.size := ⟨_, rfl⟩
      rw [← htb] at BT ⊢
      clear htb
      generalize (wo.alloc (.cells #[.string tn, .int .i64 tl, .int .i64 td, .int .i64 th, .int .i64 tg] 29)) = w2 at *
      have t0 := BT.out.cell 0 rfl
      have t1 := BT.out.cell 1 rfl
      have t2 := BT.out.cell 2 rfl
      have t3 := BT.out.cell 3 rfl
      have t4 := BT.out.cell 4 rfl
      cases vd
      case true =>
        have S3 : Hid (6 = V) := S2.out
        go_wp2_with (at_lookup; refine wpList_set_look _ rfl _ _ rfl (b0 + 1) k Sf M2.out rfl tn rfl hsz ?_; rw [hd])
        go_wp2
        go_ret
        exact ⟨ret_int S3.out, G2.out⟩
      have S3 : Hid ((if vr then vdF x (k + 1) (n - (k + 1)) else 1) = V) := S2.out
      clear S2
      go_wp2_with (at_lookup; refine wpList_set_look _ rfl _ _ rfl (b0 + 1) k Sf M2.out rfl tn rfl hsz ?_; rw [hd])
      go_wp2_with fail
      refine (KR _).out.mono ?_
      rintro e w3 ⟨rfl, G3⟩
      have BT3 := hide (BT.out.grew G3)
      have GG3 := hide (G2.out.trans G3)
      have M3 := hide (M2.out.grew G3)
      clear KR G3 M2 G2 BT t0 t1 t2 t3 t4
      cases vr
      · have S4 : Hid (1 = V) := S3.out
        go_wp2
        go_ret
        exact ⟨ret_int S4.out, GG3.out⟩
      have S4 : Hid (vdF x (k + 1) (n - (k + 1)) = V) := S3.out
      clear S3
      have t0 := BT3.out.cell 0 rfl
      go_wp2_with (at_mapUpdate; refine wpList_set_store _ rfl _ _ _ rfl (b0 + 1) k Sf M3.out (by omega) rfl tn rfl hsz rfl ?_)
      intro o' M5
      have G5 : Hid (Grew w (setBlock w3 (b0 + 1) o')) := GG3.out.setBlock (Nat.le_succ_of_le hw.out) o'
      have M6 : Hid (MSet (setBlock w3 (b0 + 1) o') (b0 + 1) (k + 1) (fun s => anyF x s 0 (k + 1))) := M5.congr fun s => by rw [HX.out s, HT.out s]
      clear M5 M3 GG3 BT3 t0
      generalize setBlock w3 (b0 + 1) o' = w4 at *
      go_wp2
      go_roundg (n - k)
      case measure => omega
      case rel => exact ⟨k + 1, by go_num, by omega, by omega, G5, M6, S4⟩
    · have hltz : ¬ (k : Int) < (n : Int) := by omega
      have S2 : Hid (0 = V) := by
        have := S.out
        rwa [show n - k = 0 by omega, vdF] at this
      clear S
      go_wp2
      go_ret
      exact ⟨ret_int S2.out, G.out⟩
theorem Validate_any (p : Option Addr) (n c : Nat) (x : Nat → Tk) (w : World) (H : SRow w p n 5 (tkC x)) (hn : n ≤ 120) (hs : ∀ k, k < n → (x k).nm.size ≤ 9223372036854775807) :
    Calls Try.prog 10 #[.agg #[.slice p n c]] w fun e w' => e = .returned (.int .i64 (vldF x n)) ∧ Grew w w' := Validate_core p n c x w H hn hs _ rfl
end Go.Proofs.Ytpdjgmfccolgjaa
