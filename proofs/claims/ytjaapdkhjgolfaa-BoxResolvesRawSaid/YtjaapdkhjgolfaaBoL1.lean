/- What the law BoxResolvesRaw runs, where Resolve, Offsets and their references answer as the chapter asks; no other condition. -/
import Derived.Test.YtjaapdkhjgolfaaBoAx
namespace Go.Proofs.Ytjaapdkhjgolfaa
open Go.RowKit Go.Sort
set_option linter.unusedVariables false
set_option linter.unusedSimpArgs false

set_option maxHeartbeats 4000000 in
theorem rraw_core (hR : KRes 11) (hO : KOff 20) (hr : KRes 12) (av gap : Int) (p : Option Addr) (n c : Nat) (x : Nat → Fx) (W : World) (H : SRow W p n 5 (fxC x)) (hn : n ≤ 9223372036854775807) :
    Calls Try.prog 3 #[.int .i64 av, .int .i64 gap, .slice p n c] W fun e w' => e = .returned (.bool true) ∧ Below W.heap.size W w' := by
  by_cases hb : 120 < n
  · clear hR hO hr H
    have hz : (120 : Int) < (n : Int) := by omega
    go_enter Try.func3, Try.ntmps3
    go_wp2_with fail
    go_ret
    exact ⟨rfl, Below.refl _ _⟩
  · have hz : ¬ (120 : Int) < (n : Int) := by omega
    have H1 := hide (hR av gap p n c x W H (by omega))
    have H2 := hide (fun w' (h : Below W.heap.size W w') => hr av gap p n c x w' (H.below h) (by omega))
    have A := hide (fun w' => bawake_any hR hO w')
    have hm : (if erR av gap x n = 0 then n else 0) ≤ 1048576 := by split <;> omega
    generalize hk : (if erR av gap x n = 0 then n else 0) = m at H1 H2 hm
    generalize erR av gap x n = er at H1 H2
    clear hk H hR hO hr
    go_enter Try.func3, Try.ntmps3
    go_wp2_with fail
    refine H1.out.mono ?_
    rintro e w1 ⟨q1, d1, rfl, R1, B1⟩
    have K2 := hide (H2.out w1 B1)
    replace R1 := hide R1
    replace B1 := hide B1
    clear H1 H2
    go_wp2_with fail
    refine K2.out.mono ?_
    rintro e w2 ⟨q2, d2, rfl, R2, B2⟩
    have R3 : Hid (Reads w2 q1 m (resF av gap x n)) := R1.out.below B2
    have B3 : Hid (Below W.heap.size W w2) := B1.out.trans (B2.mono B1.out.size)
    have E := hide (equal_yes q1 q2 m d1 d2 _ w2 hm R3.out R2)
    clear R1 B1 R2 B2 R3 K2
    go_wp2_with fail
    refine E.out.mono ?_
    rintro e w3 ⟨rfl, hd⟩
    have B4 := hide (below_drawn B3.out hd)
    clear E hd B3
    go_wp2_with fail
    refine (A.out w3).mono ?_
    rintro e w4 ⟨rfl, h⟩
    have B5 : Hid (Below W.heap.size W w4) := B4.out.trans (h.mono B4.out.size)
    clear h B4
    go_wp2_with fail
    go_ret
    exact ⟨rfl, B5.out⟩
end Go.Proofs.Ytjaapdkhjgolfaa
