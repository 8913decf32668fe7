/- What the library's in-place merge makes of a sorted part and a single element behind it; the row is memory of the call's own, the comparison is a function that only reads. -/
import Derived.Test.YtdoenkngmgclmaaFxSymL
namespace Go.Proofs.Ytdoenkngmgclmaa
open Go.Shelf Go.RowKit Go.Lib Go.Sort Go.Proofs
variable {α : Type} [Inhabited α]

set_option maxHeartbeats 16000000 in
set_option maxRecDepth 1000000 in
theorem symR (enc : α → Value) (cf : α → α → Int) (g : Nat) (cb : Array Value) (blk off cap a m b : Nat) (d0 d : Array α) (w0 w : World) (T : Sorts enc cf g cb blk off d0 w0)
    (hs : d.size = d0.size) (S : SW enc w0 blk off d w) (h1 : b = m + 1) (h2 : a + 1 < m) (hb : b ≤ d.size) :
    Calls Try.prog 79 #[.slice (some ⟨blk, off, none⟩) d.size cap, .int .i64 a, .int .i64 m, .int .i64 b, .func (.func g) #[] cb] w fun e w' =>
      e = .returned (.tuple #[]) ∧ ∃ i, a ≤ i ∧ i ≤ m ∧ (i = a ∨ ltOf cf d[m]! d[i - 1]! = false) ∧ (i = m ∨ ltOf cf d[m]! d[i]! = true) ∧ SW enc w0 blk off (rot d i m (m + 1)) w' := by
  have eg := T.eg
  have HC : Aside _ := T.hcmp
  have R := T.R
  have hsz : d.size < 1152921504606846976 := by rw [hs]; exact T.hsz
  have mixed := insLaid.mixed
  have hcl0 := R.hO.cells
  simp only [Value.cells] at hcl0
  have hst := R.hO.store Try.prog
  have S0 : Aside (SW enc w0 blk off d w) := S
  have HS := hide' hs
  clear S T hs
  have tst : ((m : Int) - (a : Int) == 1) = false := by simp; omega
  have tst2 : ((b : Int) - (m : Int) == 1) = true := by simp; omega
  have hm1 : b ≤ m + 1 := by omega
  have hm2 : m + 1 ≤ b := by omega
  clear h1
  go_enter Try.func79, Try.ntmps79
  go_wp2
  clear tst tst2
  go_loopg [14, 15] (m + 1) (fun g1 vi vj wr => ∃ (i j : Nat), vi = .int .i64 i ∧ vj = .int .i64 j ∧ a ≤ i ∧ i ≤ j ∧ j ≤ m ∧ j - i < g1 ∧ Hid (i = a ∨ ltOf cf d[m]! d[i - 1]! = false) ∧ Hid (j = m ∨ ltOf cf d[m]! d[j]! = true) ∧ Aside (SW enc w0 blk off d wr))
  case atStart => exact ⟨a, m, rfl, rfl, by omega, by omega, by omega, by omega, Or.inl rfl, Or.inl rfl, S0⟩
  case round =>
    clear S0
    obtain ⟨i, j, rfl, rfl, hi, hij, hj, hg, KI, KJ, S1⟩ := hrel
    by_cases hlt : i < j
    · have hltz : (i : Int) < (j : Int) := by omega
      go_wp2_with fail
      obtain ⟨h, hh⟩ : ∃ h : Nat, h = (i + j) / 2 := ⟨_, rfl⟩
      rw [show ((i : Int) + (j : Int)) / 2 = (h : Int) by omega]
      have hh1 : i ≤ h := by omega
      have hh2 : h < j := by omega
      clear hh
      cases hlv : ltOf cf d[m]! d[h]! with
      | true =>
        obtain ⟨iN, hiN⟩ : ∃ q, q = m := ⟨_, rfl⟩
        obtain ⟨jN, hjN⟩ : ∃ q, q = h := ⟨_, rfl⟩
        have ea : (((m : Nat) : Int)).toNat = iN := by omega
        have pa : (0 : Int) ≤ ((m : Nat) : Int) := by omega
        have ba : ((m : Nat) : Int) < (d.size : Int) := by omega
        have ra : IntKind.i64.wrap (((m : Nat) : Int)) = ((m : Nat) : Int) := by rw [IntKind.wrap_i64]; omega
        have ec : (((h : Nat) : Int)).toNat = jN := by omega
        have pc : (0 : Int) ≤ ((h : Nat) : Int) := by omega
        have bc : ((h : Nat) : Int) < (d.size : Int) := by omega
        have rc : IntKind.i64.wrap (((h : Nat) : Int)) = ((h : Nat) : Int) := by rw [IntKind.wrap_i64]; omega
        obtain ⟨x, hx⟩ : ∃ x, x = d[m]! := ⟨_, rfl⟩
        obtain ⟨y, hy⟩ : ∃ x, x = d[h]! := ⟨_, rfl⟩
        have l1a := S1.out.cl R HS.out (m) (by omega)
        have l1b := S1.out.cl R HS.out (h) (by omega)
        rw [← hx, ← hiN] at l1a
        rw [← hy, ← hjN] at l1b
        have hc1 := S1.out.cmp HC.out HS.out x y
        have hv1 : cf x y < 0 := by rw [hx, hy]; exact of_decide_eq_true hlv
        have hd1 : decide (cf x y < 0) = true := decide_eq_true hv1
        have HLV := hide' hlv
        clear hx hy hiN hjN hlv
        go_wp2_with fail
        go_quiet_grown (first | (go_at_fn g; refine Calls.grown_of (hc1 _ _)))
        have S2 : Aside (SW enc w0 blk off d (grow (wr.drewN nq) osq)) := S1.out.grown nq osq
        clear l1a l1b hc1 S1
        generalize grow (wr.drewN nq) osq = w2 at S2 ⊢
        clear nq osq
        clear ea ec ra rc pa pc ba bc
        have hlv := HLV.out
        clear HLV hd1 hv1
        have K' : Hid (h = m ∨ ltOf cf d[m]! d[h]! = true) := Or.inr hlv
        clear hlv
        go_wp2
        go_roundg (h - i + 1)
        case measure => omega
        case rel => exact ⟨i, h, rfl, rfl, hi, by omega, by omega, by omega, KI, K', S2⟩
      | false =>
        obtain ⟨iN, hiN⟩ : ∃ q, q = m := ⟨_, rfl⟩
        obtain ⟨jN, hjN⟩ : ∃ q, q = h := ⟨_, rfl⟩
        have ea : (((m : Nat) : Int)).toNat = iN := by omega
        have pa : (0 : Int) ≤ ((m : Nat) : Int) := by omega
        have ba : ((m : Nat) : Int) < (d.size : Int) := by omega
        have ra : IntKind.i64.wrap (((m : Nat) : Int)) = ((m : Nat) : Int) := by rw [IntKind.wrap_i64]; omega
        have ec : (((h : Nat) : Int)).toNat = jN := by omega
        have pc : (0 : Int) ≤ ((h : Nat) : Int) := by omega
        have bc : ((h : Nat) : Int) < (d.size : Int) := by omega
        have rc : IntKind.i64.wrap (((h : Nat) : Int)) = ((h : Nat) : Int) := by rw [IntKind.wrap_i64]; omega
        obtain ⟨x, hx⟩ : ∃ x, x = d[m]! := ⟨_, rfl⟩
        obtain ⟨y, hy⟩ : ∃ x, x = d[h]! := ⟨_, rfl⟩
        have l1a := S1.out.cl R HS.out (m) (by omega)
        have l1b := S1.out.cl R HS.out (h) (by omega)
        rw [← hx, ← hiN] at l1a
        rw [← hy, ← hjN] at l1b
        have hc1 := S1.out.cmp HC.out HS.out x y
        have hv1 : ¬ cf x y < 0 := by rw [hx, hy]; exact of_decide_eq_false hlv
        have hd1 : decide (cf x y < 0) = false := decide_eq_false hv1
        have HLV := hide' hlv
        clear hx hy hiN hjN hlv
        go_wp2_with fail
        go_quiet_grown (first | (go_at_fn g; refine Calls.grown_of (hc1 _ _)))
        have S2 : Aside (SW enc w0 blk off d (grow (wr.drewN nq) osq)) := S1.out.grown nq osq
        clear l1a l1b hc1 S1
        generalize grow (wr.drewN nq) osq = w2 at S2 ⊢
        clear nq osq
        clear ea ec ra rc pa pc ba bc
        have hlv := HLV.out
        clear HLV hd1 hv1
        have K' : Hid (h + 1 = a ∨ ltOf cf d[m]! d[h + 1 - 1]! = false) := Or.inr hlv
        clear hlv
        go_wp2
        go_roundg (j - (h + 1) + 1)
        case measure => omega
        case rel => exact ⟨h + 1, j, by go_num, rfl, by omega, by omega, hj, by omega, K', KJ, S2⟩
    · have hltz : ¬ (i : Int) < (j : Int) := by omega
      obtain rfl : i = j := by omega
      have S1' : Aside (SW enc w0 blk off (rot d m m (m + 1)) wr) := by rw [rot_left]; exact S1
      clear S1
      go_wp2
      go_loopg [17] (m + 1) (fun g2 vk wr2 => ∃ k : Nat, vk = .int .i64 k ∧ i ≤ k ∧ k ≤ m ∧ k - i < g2 ∧ Aside (SW enc w0 blk off (rot d k m (m + 1)) wr2))
      case atStart => exact ⟨m, rfl, by omega, by omega, by omega, S1'⟩
      case round =>
        clear S1'
        obtain ⟨wo, rfl⟩ : ∃ wo : World, wo = wr := ⟨_, rfl⟩
        obtain ⟨k, rfl, hk, hki, hg2, S2⟩ := hrel
        by_cases hlt2 : i < k
        · obtain ⟨kp, rfl⟩ : ∃ q, k = q + 1 := ⟨k - 1, by omega⟩
          have hltz2 : (i : Int) < (kp : Int) + 1 := by omega
          go_wp2_with fail
          obtain ⟨iN, hiN⟩ : ∃ q, q = kp + 1 := ⟨_, rfl⟩
          obtain ⟨jN, hjN⟩ : ∃ q, q = kp := ⟨_, rfl⟩
          have ea : ((kp : Int) + 1).toNat = iN := by omega
          have pa : (0 : Int) ≤ (kp : Int) + 1 := by omega
          have ba : (kp : Int) + 1 < (d.size : Int) := by omega
          have ra : IntKind.i64.wrap ((kp : Int) + 1) = (kp : Int) + 1 := by rw [IntKind.wrap_i64]; omega
          have ec : ((kp : Int)).toNat = jN := by omega
          have pc : (0 : Int) ≤ (kp : Int) := by omega
          have bc : (kp : Int) < (d.size : Int) := by omega
          have rc : IntKind.i64.wrap ((kp : Int)) = (kp : Int) := by rw [IntKind.wrap_i64]; omega
          have hsj : (rot d (kp + 1) m (m + 1)).size = d.size := size_rot _ _ _ _
          have hsj0 : (rot d (kp + 1) m (m + 1)).size = d0.size := hsj.trans HS.out
          obtain ⟨x, hx⟩ : ∃ x, x = (rot d (kp + 1) m (m + 1))[kp + 1]! := ⟨_, rfl⟩
          obtain ⟨y, hy⟩ : ∃ x, x = (rot d (kp + 1) m (m + 1))[kp]! := ⟨_, rfl⟩
          have S3 : Aside (SW enc w0 blk off (rot d kp m (m + 1)) ((wo.setCell ⟨blk, off + iN, none⟩ (enc y)).setCell ⟨blk, off + jN, none⟩ (enc x)).drew) := by
            rw [← rot_down d kp m (by omega) (by omega), hiN, hjN, hx, hy]; exact S2.out.swapped R (kp + 1) (kp) (by omega) (by omega)
          have c1a := S2.out.c1 R hsj0 (kp + 1) (by omega)
          have c1b := S2.out.c1 R hsj0 (kp) (by omega)
          have f1a := S2.out.f1 R hsj0 (kp + 1) (by omega)
          have f1b := S2.out.f1 R hsj0 (kp) (by omega)
          obtain ⟨u, c1c⟩ := S2.out.c2 R hsj0 (kp + 1) (kp) (by omega) (by omega) (enc y)
          rw [← hiN, ← hjN] at c1c
          rw [← hx, ← hiN] at c1a
          rw [← hy, ← hjN] at c1b
          rw [← hiN] at f1a
          rw [← hjN] at f1b
          clear S2 hx hy hiN hjN hsj hsj0
          go_wp2_with fail
          go_big_region_o
          clear c1a c1b c1c f1a f1b
          generalize ((wo.setCell ⟨blk, off + iN, none⟩ (enc y)).setCell ⟨blk, off + jN, none⟩ (enc x)).drew = w3 at S3 ⊢
          clear ea ec ra rc pa pc ba bc
          go_wp2
          go_roundg (kp + 1 - i)
          case measure => omega
          case rel => exact ⟨kp, by first | rfl | go_num | (congr 1; omega), by omega, by omega, by omega, S3⟩
        · have hltz2 : ¬ (i : Int) < (k : Int) := by omega
          obtain rfl : i = k := by omega
          go_wp2
          refine bodyPost_ret (results_none rfl _ _ _) rfl ?_
          exact ⟨rfl, i, by omega, hj, KI.out, KJ.out, S2.out⟩
end Go.Proofs.Ytdoenkngmgclmaa
