/- What the law GridTracksRaw runs, where Tracks, Least, Most, Place and their references answer as the chapter asks; no other condition. -/
import Derived.Test.YtdoenkngmgclmaaGdAw
import Derived.Test.YtdoenkngmgclmaaGdR4
import Derived.Test.YtdoenkngmgclmaaGdR7
import Derived.Test.YtdoenkngmgclmaaGdT
namespace Go.Proofs.Ytdoenkngmgclmaa
open Go.RowKit Go.Sort
set_option linter.unusedVariables false
set_option linter.unusedSimpArgs false

set_option maxHeartbeats 8000000 in
theorem same_core (hT : KTk 16) (hL : KLs 18) (hM : KMs 26) (av gap : Int) (p q : Option Addr) (n m c d : Nat) (t : Nat → Tk) (I : Nat → It) (W : World) (H1 : SRow W p n 2 (trC t)) (H2 : SRow W q m 4 (itC I)) (hc : n ≤ c) (hn : n ≤ 100000) (hm : m ≤ 100000) :
    Calls Try.prog 12 #[.int .i64 av, .int .i64 gap, .slice p n c, .slice q m d] W fun e w' => e = .returned (.bool true) ∧ Below W.heap.size W w' := by
  have T1 := hide (hT av gap p q n m c d t I W H1 H2 hc hn hm)
  have T2 := hide (fun w' (h : Below W.heap.size W w') => rTk av gap p q n m c d t I w' (H1.below h) (H2.below h) hc hn hm)
  have L1 := hide (fun w' (h : Below W.heap.size W w') => hL gap p q n m c d t I w' (H1.below h) (H2.below h) hc hn hm)
  have L2 := hide (fun w' (h : Below W.heap.size W w') => rLs gap p q n m c d t I w' (H1.below h) (H2.below h) hc hn hm)
  have M1 := hide (fun w' (h : Below W.heap.size W w') => hM gap p q n m c d t I w' (H1.below h) (H2.below h) hc hn hm)
  have M2 := hide (fun w' (h : Below W.heap.size W w') => rMs gap p q n m c d t I w' (H1.below h) (H2.below h) hc hn hm)
  have hk2 : (if erG av gap n t m I = 0 then n else 0) ≤ 1048576 := by split <;> omega
  generalize (if erG av gap n t m I = 0 then n else 0) = k at *
  generalize erG av gap n t m I = er at *
  generalize (if erG 0 gap n t m I = 0 then totG gap (lqF t gap I n m) n else 0) = vl at *
  generalize (if erG 0 gap n t m I = 0 then totG gap (mqF t gap I n m) n else 0) = vm at *
  generalize trF av t gap I n m = tr at *
  clear hT hL hM H1 H2
  go_enter Try.func12, Try.ntmps12
  go_wp2_with fail
  refine T1.out.mono ?_
  rintro e w1 ⟨q1, d1, rfl, R1, B1⟩
  have K2 := hide (T2.out w1 B1)
  replace R1 := hide R1
  replace B1 := hide B1
  clear T1 T2
  go_wp2_with fail
  refine K2.out.mono ?_
  rintro e w2 ⟨q2, d2, rfl, R2, B2⟩
  have R3 : Hid (Reads w2 q1 k tr) := R1.out.below B2
  have B3 : Hid (Below W.heap.size W w2) := B1.out.trans (B2.mono B1.out.size)
  have E := hide (equal_yes q1 q2 k d1 d2 _ w2 hk2 R3.out R2)
  clear R1 B1 R2 B2 R3 K2
  go_wp2_with fail
  refine E.out.mono ?_
  rintro e w3 ⟨rfl, hd⟩
  have B4 := hide (below_drawnG B3.out hd)
  clear E hd B3
  have L1 := hide (L1.out w3 B4.out)
  go_wp2_with fail
  refine L1.out.mono ?_
  rintro e w4 ⟨rfl, h⟩
  have B5 : Hid (Below W.heap.size W w4) := B4.out.trans (h.mono B4.out.size)
  have L2 := hide (L2.out w4 B5.out)
  clear h B4 L1
  go_wp2_with fail
  refine L2.out.mono ?_
  rintro e w5 ⟨rfl, h⟩
  have B6 : Hid (Below W.heap.size W w5) := B5.out.trans (h.mono B5.out.size)
  have M1 := hide (M1.out w5 B6.out)
  clear h B5 L2
  go_wp2_with fail
  refine M1.out.mono ?_
  rintro e w6 ⟨rfl, h⟩
  have B7 : Hid (Below W.heap.size W w6) := B6.out.trans (h.mono B6.out.size)
  have M2 := hide (M2.out w6 B7.out)
  clear h B6 M1
  go_wp2_with fail
  refine M2.out.mono ?_
  rintro e w7 ⟨rfl, h⟩
  have B8 : Hid (Below W.heap.size W w7) := B7.out.trans (h.mono B7.out.size)
  clear h B7 M2
  go_wp2_with fail
  go_ret
  exact ⟨rfl, B8.out⟩
set_option maxHeartbeats 4000000 in
theorem traw_core (hT : KTk 16) (hL : KLs 18) (hM : KMs 26) (hP : KPl 9) (av gap : Int) (p q : Option Addr) (n m c d : Nat) (t : Nat → Tk) (I : Nat → It) (W : World) (H1 : SRow W p n 2 (trC t)) (H2 : SRow W q m 4 (itC I)) (hc : n ≤ c) :
    Calls Try.prog 5 #[.int .i64 av, .int .i64 gap, .slice p n c, .slice q m d] W fun e w' => e = .returned (.bool true) ∧ Below W.heap.size W w' := by
  by_cases hb : 30 < n
  · have hz : (30 : Int) < (n : Int) := by omega
    clear hT hL hM hP H1 H2
    go_enter Try.func5, Try.ntmps5
    go_wp2_with fail
    go_ret
    exact ⟨rfl, Below.refl _ _⟩
  have hz : ¬ (30 : Int) < (n : Int) := by omega
  by_cases hb2 : 110 < m
  · have hz2 : (110 : Int) < (m : Int) := by omega
    clear hT hL hM hP H1 H2
    go_enter Try.func5, Try.ntmps5
    go_wp2_with fail
    go_ret
    exact ⟨rfl, Below.refl _ _⟩
  have hz2 : ¬ (110 : Int) < (m : Int) := by omega
  have SC := hide (same_core hT hL hM av gap p q n m c d t I W H1 H2 hc (by omega) (by omega))
  have A := hide (fun w' => gawake_any (tr_of hT) hP w')
  clear hT hL hM hP H1 H2
  go_enter Try.func5, Try.ntmps5
  go_wp2_with fail
  refine SC.out.mono ?_
  rintro e w3 ⟨rfl, h⟩
  have B4 := hide h
  clear h SC
  go_wp2_with fail
  refine (A.out w3).mono ?_
  rintro e w4 ⟨rfl, h⟩
  have B5 : Hid (Below W.heap.size W w4) := B4.out.trans (h.mono B4.out.size)
  clear h B4
  go_wp2_with fail
  go_ret
  exact ⟨rfl, B5.out⟩
end Go.Proofs.Ytdoenkngmgclmaa
