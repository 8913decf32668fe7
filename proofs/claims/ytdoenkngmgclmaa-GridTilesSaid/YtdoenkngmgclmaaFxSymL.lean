/- What the library's in-place merge makes of a single element and a sorted part, either way round; the row is memory of the call's own, the comparison is a function that only reads. -/
import Derived.Test.YtdoenkngmgclmaaFxPick
namespace Go.Proofs.Ytdoenkngmgclmaa
open Go.Shelf Go.RowKit Go.Lib Go.Sort Go.Proofs
variable {α : Type} [Inhabited α]

/-- The row's world, as the steps of the sort need it. -/
structure Sorts (enc : α → Value) (cf : α → α → Int) (g : Nat) (cb : Array Value) (blk off : Nat) (d0 : Array α) (w0 : World) : Prop where
  eg : ∀ args w, (callFunc g args).run Try.prog w = .ok (.enter g args) w
  hcmp : CmpLays1 Try.prog g cb enc cf blk off d0.size w0
  R : Row1 enc w0 blk off d0
  hsz : d0.size < 1152921504606846976

set_option maxHeartbeats 16000000 in
set_option maxRecDepth 1000000 in
theorem symL (enc : α → Value) (cf : α → α → Int) (g : Nat) (cb : Array Value) (blk off cap a m b : Nat) (d0 d : Array α) (w0 w : World) (T : Sorts enc cf g cb blk off d0 w0)
    (hs : d.size = d0.size) (S : SW enc w0 blk off d w) (h1 : m = a + 1) (h2 : m < b) (hb : b ≤ d.size) :
    Calls Try.prog 79 #[.slice (some ⟨blk, off, none⟩) d.size cap, .int .i64 a, .int .i64 m, .int .i64 b, .func (.func g) #[] cb] w fun e w' =>
      e = .returned (.tuple #[]) ∧ ∃ i, a + 1 ≤ i ∧ i ≤ b ∧ (i = a + 1 ∨ ltOf cf d[i - 1]! d[a]! = true) ∧ (i = b ∨ ltOf cf d[i]! d[a]! = false) ∧ SW enc w0 blk off (rot d a (a + 1) i) w' := by
  have eg := T.eg
  have HC : Aside _ := T.hcmp
  have R := T.R
  have hsz : d.size < 1152921504606846976 := by rw [hs]; exact T.hsz
  have mixed := insLaid.mixed
  have hcl0 := R.hO.cells
  simp only [Value.cells] at hcl0
  have hst := R.hO.store Try.prog
  have S0 : Aside (SW enc w0 blk off d w) := S
  have HS := hide' hs
  clear S T hs
  have tst : ((m : Int) - (a : Int) == 1) = true := by simp; omega
  have HM := hide' h1
  have hm1 : m ≤ a + 1 := by omega
  have hm2 : a + 1 ≤ m := by omega
  clear h1
  go_enter Try.func79, Try.ntmps79
  go_wp2
  clear tst
  go_loopg [10, 11] (b + 1) (fun g1 vi vj wr => ∃ (i j : Nat), vi = .int .i64 i ∧ vj = .int .i64 j ∧ a + 1 ≤ i ∧ i ≤ j ∧ j ≤ b ∧ j - i < g1 ∧ Hid (i = a + 1 ∨ ltOf cf d[i - 1]! d[a]! = true) ∧ Hid (j = b ∨ ltOf cf d[j]! d[a]! = false) ∧ Aside (SW enc w0 blk off d wr))
  case atStart => exact ⟨m, b, rfl, rfl, by omega, by omega, by omega, by omega, Or.inl HM.out, Or.inl rfl, S0⟩
  case round =>
    clear S0
    obtain ⟨i, j, rfl, rfl, hi, hij, hj, hg, KI, KJ, S1⟩ := hrel
    by_cases hlt : i < j
    · have hltz : (i : Int) < (j : Int) := by omega
      go_wp2_with fail
      obtain ⟨h, hh⟩ : ∃ h : Nat, h = (i + j) / 2 := ⟨_, rfl⟩
      rw [show ((i : Int) + (j : Int)) / 2 = (h : Int) by omega]
      have hh1 : i ≤ h := by omega
      have hh2 : h < j := by omega
      clear hh
      cases hlv : ltOf cf d[h]! d[a]! with
      | true =>
        obtain ⟨iN, hiN⟩ : ∃ q, q = h := ⟨_, rfl⟩
        obtain ⟨jN, hjN⟩ : ∃ q, q = a := ⟨_, rfl⟩
        have ea : (((h : Nat) : Int)).toNat = iN := by omega
        have pa : (0 : Int) ≤ ((h : Nat) : Int) := by omega
        have ba : ((h : Nat) : Int) < (d.size : Int) := by omega
        have ra : IntKind.i64.wrap (((h : Nat) : Int)) = ((h : Nat) : Int) := by rw [IntKind.wrap_i64]; omega
        have ec : (((a : Nat) : Int)).toNat = jN := by omega
        have pc : (0 : Int) ≤ ((a : Nat) : Int) := by omega
        have bc : ((a : Nat) : Int) < (d.size : Int) := by omega
        have rc : IntKind.i64.wrap (((a : Nat) : Int)) = ((a : Nat) : Int) := by rw [IntKind.wrap_i64]; omega
        obtain ⟨x, hx⟩ : ∃ x, x = d[h]! := ⟨_, rfl⟩
        obtain ⟨y, hy⟩ : ∃ x, x = d[a]! := ⟨_, rfl⟩
        have l1a := S1.out.cl R HS.out (h) (by omega)
        have l1b := S1.out.cl R HS.out (a) (by omega)
        rw [← hx, ← hiN] at l1a
        rw [← hy, ← hjN] at l1b
        have hc1 := S1.out.cmp HC.out HS.out x y
        have hv1 : cf x y < 0 := by rw [hx, hy]; exact of_decide_eq_true hlv
        have hd1 : decide (cf x y < 0) = true := decide_eq_true hv1
        have HLV := hide' hlv
        clear hx hy hiN hjN hlv
        go_wp2_with fail
        go_quiet_grown (first | (go_at_fn g; refine Calls.grown_of (hc1 _ _)))
        have S2 : Aside (SW enc w0 blk off d (grow (wr.drewN nq) osq)) := S1.out.grown nq osq
        clear l1a l1b hc1 S1
        generalize grow (wr.drewN nq) osq = w2 at S2 ⊢
        clear nq osq
        clear ea ec ra rc pa pc ba bc
        have hlv := HLV.out
        clear HLV hd1 hv1
        have K' : Hid (h + 1 = a + 1 ∨ ltOf cf d[h + 1 - 1]! d[a]! = true) := Or.inr hlv
        clear hlv
        go_wp2
        go_roundg (j - (h + 1) + 1)
        case measure => omega
        case rel => exact ⟨h + 1, j, by go_num, rfl, by omega, by omega, hj, by omega, K', KJ, S2⟩
      | false =>
        obtain ⟨iN, hiN⟩ : ∃ q, q = h := ⟨_, rfl⟩
        obtain ⟨jN, hjN⟩ : ∃ q, q = a := ⟨_, rfl⟩
        have ea : (((h : Nat) : Int)).toNat = iN := by omega
        have pa : (0 : Int) ≤ ((h : Nat) : Int) := by omega
        have ba : ((h : Nat) : Int) < (d.size : Int) := by omega
        have ra : IntKind.i64.wrap (((h : Nat) : Int)) = ((h : Nat) : Int) := by rw [IntKind.wrap_i64]; omega
        have ec : (((a : Nat) : Int)).toNat = jN := by omega
        have pc : (0 : Int) ≤ ((a : Nat) : Int) := by omega
        have bc : ((a : Nat) : Int) < (d.size : Int) := by omega
        have rc : IntKind.i64.wrap (((a : Nat) : Int)) = ((a : Nat) : Int) := by rw [IntKind.wrap_i64]; omega
        obtain ⟨x, hx⟩ : ∃ x, x = d[h]! := ⟨_, rfl⟩
        obtain ⟨y, hy⟩ : ∃ x, x = d[a]! := ⟨_, rfl⟩
        have l1a := S1.out.cl R HS.out (h) (by omega)
        have l1b := S1.out.cl R HS.out (a) (by omega)
        rw [← hx, ← hiN] at l1a
        rw [← hy, ← hjN] at l1b
        have hc1 := S1.out.cmp HC.out HS.out x y
        have hv1 : ¬ cf x y < 0 := by rw [hx, hy]; exact of_decide_eq_false hlv
        have hd1 : decide (cf x y < 0) = false := decide_eq_false hv1
        have HLV := hide' hlv
        clear hx hy hiN hjN hlv
        go_wp2_with fail
        go_quiet_grown (first | (go_at_fn g; refine Calls.grown_of (hc1 _ _)))
        have S2 : Aside (SW enc w0 blk off d (grow (wr.drewN nq) osq)) := S1.out.grown nq osq
        clear l1a l1b hc1 S1
        generalize grow (wr.drewN nq) osq = w2 at S2 ⊢
        clear nq osq
        clear ea ec ra rc pa pc ba bc
        have hlv := HLV.out
        clear HLV hd1 hv1
        have K' : Hid (h = b ∨ ltOf cf d[h]! d[a]! = false) := Or.inr hlv
        clear hlv
        go_wp2
        go_roundg (h - i + 1)
        case measure => omega
        case rel => exact ⟨i, h, rfl, rfl, hi, by omega, by omega, by omega, KI, K', S2⟩
    · have hltz : ¬ (i : Int) < (j : Int) := by omega
      obtain rfl : i = j := by omega
      have S1' : Aside (SW enc w0 blk off (rot d a (a + 1) (a + 1)) wr) := by rw [rot_right]; exact S1
      clear S1
      go_wp2
      go_loopg [13] (i + 1) (fun g2 vk wr2 => ∃ k : Nat, vk = .int .i64 k ∧ a ≤ k ∧ k + 1 ≤ i ∧ i - k < g2 ∧ Aside (SW enc w0 blk off (rot d a (a + 1) (k + 1)) wr2))
      case atStart => exact ⟨a, rfl, by omega, by omega, by omega, S1'⟩
      case round =>
        clear S1'
        obtain ⟨wo, rfl⟩ : ∃ wo : World, wo = wr := ⟨_, rfl⟩
        obtain ⟨k, rfl, hk, hki, hg2, S2⟩ := hrel
        by_cases hlt2 : k + 1 < i
        · have hltz2 : (k : Int) < (i : Int) - 1 := by omega
          go_wp2_with fail
          obtain ⟨iN, hiN⟩ : ∃ q, q = k := ⟨_, rfl⟩
          obtain ⟨jN, hjN⟩ : ∃ q, q = k + 1 := ⟨_, rfl⟩
          have ea : (((k : Nat) : Int)).toNat = iN := by omega
          have pa : (0 : Int) ≤ ((k : Nat) : Int) := by omega
          have ba : ((k : Nat) : Int) < (d.size : Int) := by omega
          have ra : IntKind.i64.wrap (((k : Nat) : Int)) = ((k : Nat) : Int) := by rw [IntKind.wrap_i64]; omega
          have ec : ((k : Int) + 1).toNat = jN := by omega
          have pc : (0 : Int) ≤ (k : Int) + 1 := by omega
          have bc : (k : Int) + 1 < (d.size : Int) := by omega
          have rc : IntKind.i64.wrap ((k : Int) + 1) = (k : Int) + 1 := by rw [IntKind.wrap_i64]; omega
          have hsj : (rot d a (a + 1) (k + 1)).size = d.size := size_rot _ _ _ _
          have hsj0 : (rot d a (a + 1) (k + 1)).size = d0.size := hsj.trans HS.out
          obtain ⟨x, hx⟩ : ∃ x, x = (rot d a (a + 1) (k + 1))[k]! := ⟨_, rfl⟩
          obtain ⟨y, hy⟩ : ∃ x, x = (rot d a (a + 1) (k + 1))[k + 1]! := ⟨_, rfl⟩
          have S3 : Aside (SW enc w0 blk off (rot d a (a + 1) (k + 1 + 1)) ((wo.setCell ⟨blk, off + iN, none⟩ (enc y)).setCell ⟨blk, off + jN, none⟩ (enc x)).drew) := by
            rw [← rot_up d a k (by omega) (by omega), hiN, hjN, hx, hy]; exact S2.out.swapped R (k) (k + 1) (by omega) (by omega)
          have c1a := S2.out.c1 R hsj0 (k) (by omega)
          have c1b := S2.out.c1 R hsj0 (k + 1) (by omega)
          have f1a := S2.out.f1 R hsj0 (k) (by omega)
          have f1b := S2.out.f1 R hsj0 (k + 1) (by omega)
          obtain ⟨u, c1c⟩ := S2.out.c2 R hsj0 (k) (k + 1) (by omega) (by omega) (enc y)
          rw [← hjN, ← hiN] at c1c
          rw [← hx, ← hiN] at c1a
          rw [← hy, ← hjN] at c1b
          rw [← hiN] at f1a
          rw [← hjN] at f1b
          clear S2 hx hy hiN hjN hsj hsj0
          go_wp2_with fail
          go_big_region_o
          clear c1a c1b c1c f1a f1b
          generalize ((wo.setCell ⟨blk, off + iN, none⟩ (enc y)).setCell ⟨blk, off + jN, none⟩ (enc x)).drew = w3 at S3 ⊢
          clear ea ec ra rc pa pc ba bc
          go_wp2
          go_roundg (i - k)
          case measure => omega
          case rel => exact ⟨k + 1, by go_num, by omega, by omega, by omega, S3⟩
        · have hltz2 : ¬ (k : Int) < (i : Int) - 1 := by omega
          obtain rfl : k + 1 = i := by omega
          go_wp2
          refine bodyPost_ret (results_none rfl _ _ _) rfl ?_
          exact ⟨rfl, k + 1, by omega, hj, KI.out, KJ.out, S2.out⟩
end Go.Proofs.Ytdoenkngmgclmaa
