/- The references' sum of a list of integers that are no greater than 2^40; no other condition. -/
import Derived.Test.YtdoenkngmgclmaaFxShare
import Derived.Test.YtdoenkngmgclmaaGeBase
import Derived.Test.YtdoenkngmgclmaaGdR3
namespace Go.Proofs.Ytdoenkngmgclmaa
open Go.RowKit Go.Sort
set_option linter.unusedVariables false
set_option linter.unusedSimpArgs false

set_option maxHeartbeats 2000000 in
theorem rSum_any (p : Option Addr) (n c : Nat) (f : Nat → Int) (w : World) (hr : Reads w p n f) (hn : n ≤ 1000) (hf : ∀ i, i < n → -1099511627776 ≤ f i ∧ f i ≤ 1099511627776) :
    Calls Try.prog 17 #[.slice p n c] w fun e w' => e = .returned (.int .i64 (sumF f n)) ∧ w' = w := by
  have H := hide hr
  have HF := hide hf
  clear hr hf
  go_enter Try.func17, Try.ntmps17
  go_wp2_with fail
  go_loopg [3, 4] (n + 1) (fun g1 va vk wr => ∃ k : Nat, va = .int .i64 (sumF f k) ∧ vk = .int .i64 (k : Int) ∧ k ≤ n ∧ n - k < g1 ∧ (-(k : Int) * 1099511627776 ≤ sumF f k ∧ sumF f k ≤ k * 1099511627776) ∧ Hid (wr = w))
  case atStart => exact ⟨0, rfl, by go_num, by omega, by omega, by simp [sumF], rfl⟩
  case round =>
    obtain ⟨k, rfl, rfl, hk, hg, ⟨s1, s2⟩, HW⟩ := hrel
    obtain rfl := HW.out
    by_cases hlt : k < n
    · have hltz : (k : Int) < (n : Int) := by omega
      obtain ⟨b, off, rfl, hb⟩ := H.out (by omega)
      have c1 : wr.cell? ⟨b, off + k, none⟩ = some (.int .i64 (f k)) := hb k hlt
      have es : sumF f (k + 1) = sumF f k + f k := rfl
      have ⟨f1, f2⟩ := HF.out k hlt
      replace es := hide es
      clear hb HW
      generalize sumF f k = sk at *
      generalize f k = fk at *
      have v1 : IntKind.i64.wrap (sk + fk) = sk + fk := by rw [IntKind.wrap_i64]; omega
      go_wp2_with fail
      go_roundg (n - k)
      case measure => omega
      case rel => exact ⟨k + 1, by rw [es.out], by go_num, by omega, by omega, by rw [es.out]; push_cast; omega, rfl⟩
    · have hltz : ¬ (k : Int) < (n : Int) := by omega
      obtain rfl : n = k := by omega
      go_wp2_with fail
      go_ret
      exact ⟨rfl, rfl⟩
end Go.Proofs.Ytdoenkngmgclmaa
/- What total, Least and Most of the reference of package grid return; no condition but on the lengths of lists. -/
namespace Go.Proofs.Ytdoenkngmgclmaa
open Go.RowKit Go.Sort
set_option linter.unusedVariables false
set_option linter.unusedSimpArgs false

theorem tot_bd {gap : Int} {n : Nat} {s : Nat → Int} (hn : n ≤ 24) (hg : 0 ≤ gap ∧ gap ≤ 1048576) (hs : ∀ i, i < n → 0 ≤ s i ∧ s i ≤ 134217728) : 0 ≤ totG gap s n ∧ totG gap s n ≤ 4294967296 := by
  have b := sumF_bound (f := s) (B := 134217728) n hs
  unfold totG
  split
  · have c := Int.mul_nonneg hg.1 (show 0 ≤ (n : Int) - 1 by omega)
    have d := Int.mul_le_mul hg.2 (show (n : Int) - 1 ≤ 24 by omega) (by omega) (by omega)
    omega
  · omega
theorem rtot_any (gap : Int) (p : Option Addr) (n c : Nat) (s : Nat → Int) (w : World) (hr : Reads w p n s) (hn : n ≤ 24) (hg : 0 ≤ gap ∧ gap ≤ 1048576) (hs : ∀ i, i < n → 0 ≤ s i ∧ s i ≤ 134217728) :
    Calls Try.prog 38 #[.int .i64 gap, .slice p n c] w fun e w' => e = .returned (.int .i64 (totG gap s n)) ∧ w' = w := by
  have SM := hide (rSum_any p n c s w hr (by omega) (fun i hi => by have := hs i hi; omega))
  have b := sumF_bound (f := s) (B := 134217728) n hs
  have tb := tot_bd hn hg hs
  obtain ⟨b1, b2⟩ := b
  unfold totG at tb ⊢
  by_cases h : 1 < n
  · have hz : (1 : Int) < (n : Int) := by omega
    rw [if_pos h] at tb ⊢
    have c1 := Int.mul_nonneg hg.1 (show 0 ≤ (n : Int) - 1 by omega)
    have w1 : IntKind.i64.wrap (gap * ((n : Int) - 1)) = gap * ((n : Int) - 1) := wr (by omega) (by omega)
    have w2 : IntKind.i64.wrap (sumF s n + gap * ((n : Int) - 1)) = sumF s n + gap * ((n : Int) - 1) := wr (by omega) (by omega)
    clear hr hs tb c1 b1 b2 hg
    generalize sumF s n = S at *
    go_enter Try.func38, Try.ntmps38
    go_wp2_with fail
    refine SM.out.mono ?_
    rintro e w' ⟨rfl, rfl⟩
    go_wp2_with fail
    go_ret
    exact ⟨rfl, rfl⟩
  · have hz : ¬ (1 : Int) < (n : Int) := by omega
    rw [if_neg h, Int.add_zero]
    clear hr hs tb b1 b2 hg
    generalize sumF s n = S at *
    go_enter Try.func38, Try.ntmps38
    go_wp2_with fail
    refine SM.out.mono ?_
    rintro e w' ⟨rfl, rfl⟩
    go_wp2_with fail
    go_ret
    exact ⟨rfl, rfl⟩
theorem erG_zero {av gap : Int} {n m : Nat} {t : Nat → Tk} {I : Nat → It} (h : erG av gap n t m I = 0) : n ≤ 24 ∧ m ≤ 100 ∧ allOk av gap n t m I := by
  unfold erG at h
  by_cases h1 : 24 < n ∨ 100 < m
  · rw [if_pos h1] at h; omega
  · rw [if_neg h1] at h
    by_cases h2 : allOk av gap n t m I
    · exact ⟨by omega, by omega, h2⟩
    · rw [if_neg h2] at h; omega
theorem lq_bd {gap : Int} {n m : Nat} {t : Nat → Tk} {I : Nat → It} (hm : m ≤ 100) (h : allOk 0 gap n t m I) : ∀ i, i < n → 0 ≤ lqF t gap I n m i ∧ lqF t gap I n m i ≤ 134217728 := fun i hi => by
  have := ls_bd h.2.1.1 hm h.2.2.1 h.2.2.2 hi
  omega
theorem mq_bd {gap : Int} {n m : Nat} {t : Nat → Tk} {I : Nat → It} (hm : m ≤ 100) (h : allOk 0 gap n t m I) : ∀ i, i < n → 0 ≤ mqF t gap I n m i ∧ mqF t gap I n m i ≤ 134217728 := fun i hi => by
  have := ls_bd h.2.1.1 hm h.2.2.1 h.2.2.2 hi
  have := ms_bd h.2.1.1 hm h.2.2.1 h.2.2.2 hi
  omega
set_option maxHeartbeats 4000000 in
theorem rLs : KLs 25 := by
  intro gap p q n m c d t I w hp hq _ hn hm
  have C := hide (rchk_any 0 gap p q n m c d t I w hp hq hn hm)
  have HP := hide hp
  have HQ := hide hq
  by_cases h : erG 0 gap n t m I = 0
  · obtain ⟨h1, h2, h3⟩ := erG_zero h
    have DM := fun (W : World) (hB : Below w.heap.size w W) => hide (rdem_any gap p q n m c d t I W (HP.out.below hB) (HQ.out.below hB) h1 h2 h3.2.1 h3.2.2.1 h3.2.2.2)
    have TT := fun (W : World) (b : Nat) (hr : IRow W b n (lqF t gap I n m)) => hide (rtot_any gap (some ⟨b, 0, none⟩) n n (lqF t gap I n m) W hr.reads h1 h3.2.1 (lq_bd h2 h3))
    rw [if_pos h]
    rw [h] at C
    clear h h3 hp hq HP HQ
    generalize totG gap (lqF t gap I n m) n = T at *
    go_enter Try.func25, Try.ntmps25
    go_wp2_with fail
    refine C.out.mono ?_
    rintro e w1 ⟨rfl, hB⟩
    have D1 := DM w1 hB
    have B1 := hide hB
    clear DM hB C
    go_wp2_with fail
    refine D1.out.mono ?_
    rintro e w2 ⟨lb, mb, rfl, hR⟩
    have T1 := TT w2 lb hR.l
    have B2 : Hid (Below w.heap.size w w2) := B1.out.trans (hR.below.mono B1.out.size)
    clear TT D1 hR
    go_wp2_with fail
    refine T1.out.mono ?_
    rintro e w' ⟨rfl, rfl⟩
    go_wp2_with fail
    go_ret
    exact ⟨rfl, B2.out⟩
  · have he : (erG 0 gap n t m I != 0) = true := by simpa using h
    rw [if_neg h]
    clear hp hq HP HQ
    generalize erG 0 gap n t m I = er at *
    clear h
    go_enter Try.func25, Try.ntmps25
    go_wp2_with fail
    refine C.out.mono ?_
    rintro e w1 ⟨rfl, hB⟩
    have B1 := hide hB
    clear hB C
    go_wp2_with fail
    go_ret
    exact ⟨rfl, B1.out⟩
set_option maxHeartbeats 4000000 in
theorem rMs : KMs 27 := by
  intro gap p q n m c d t I w hp hq _ hn hm
  have C := hide (rchk_any 0 gap p q n m c d t I w hp hq hn hm)
  have HP := hide hp
  have HQ := hide hq
  by_cases h : erG 0 gap n t m I = 0
  · obtain ⟨h1, h2, h3⟩ := erG_zero h
    have DM := fun (W : World) (hB : Below w.heap.size w W) => hide (rdem_any gap p q n m c d t I W (HP.out.below hB) (HQ.out.below hB) h1 h2 h3.2.1 h3.2.2.1 h3.2.2.2)
    have TT := fun (W : World) (b : Nat) (hr : IRow W b n (mqF t gap I n m)) => hide (rtot_any gap (some ⟨b, 0, none⟩) n n (mqF t gap I n m) W hr.reads h1 h3.2.1 (mq_bd h2 h3))
    rw [if_pos h]
    rw [h] at C
    clear h h3 hp hq HP HQ
    generalize totG gap (mqF t gap I n m) n = T at *
    go_enter Try.func27, Try.ntmps27
    go_wp2_with fail
    refine C.out.mono ?_
    rintro e w1 ⟨rfl, hB⟩
    have D1 := DM w1 hB
    have B1 := hide hB
    clear DM hB C
    go_wp2_with fail
    refine D1.out.mono ?_
    rintro e w2 ⟨lb, mb, rfl, hR⟩
    have T1 := TT w2 mb hR.m
    have B2 : Hid (Below w.heap.size w w2) := B1.out.trans (hR.below.mono B1.out.size)
    clear TT D1 hR
    go_wp2_with fail
    refine T1.out.mono ?_
    rintro e w' ⟨rfl, rfl⟩
    go_wp2_with fail
    go_ret
    exact ⟨rfl, B2.out⟩
  · have he : (erG 0 gap n t m I != 0) = true := by simpa using h
    rw [if_neg h]
    clear hp hq HP HQ
    generalize erG 0 gap n t m I = er at *
    clear h
    go_enter Try.func27, Try.ntmps27
    go_wp2_with fail
    refine C.out.mono ?_
    rintro e w1 ⟨rfl, hB⟩
    have B1 := hide hB
    clear hB C
    go_wp2_with fail
    go_ret
    exact ⟨rfl, B1.out⟩
end Go.Proofs.Ytdoenkngmgclmaa
