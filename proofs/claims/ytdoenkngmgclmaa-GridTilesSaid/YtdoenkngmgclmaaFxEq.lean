/- The references' comparison of two lists returns true where they are equal; no condition. -/
import Derived.Test.YtdoenkngmgclmaaFxShare
namespace Go.Proofs.Ytdoenkngmgclmaa
open Go.RowKit

theorem Reads.drewN {w : World} {p : Option Addr} {n : Nat} {f : Nat → Int} (h : Reads w p n f) (k : Nat) : Reads (w.drewN k) p n f := h

set_option maxHeartbeats 1000000 in
theorem equal_yes (p q : Option Addr) (n c1 c2 : Nat) (f : Nat → Int) (w : World) (hn : n ≤ 1048576) (h1 : Reads w p n f) (h2 : Reads w q n f) :
    Calls Try.prog 23 #[.slice p n c1, .slice q n c2] w fun e w' => e = .returned (.bool true) ∧ Drawn w w' := by
  rcases Nat.eq_zero_or_pos n with rfl | hp
  · clear h1 h2
    go_enter Try.func23, Try.ntmps23
    go_wp2
    refine wp_loop_rounds 1 ?_
    rw [rounds_succ]
    go_wp2
    go_ret
    exact ⟨rfl, Drawn.refl _⟩
  · obtain ⟨b, off, rfl, hb⟩ := h1 hp
    obtain ⟨b', off', rfl, hb'⟩ := h2 hp
    have HB := hide hb
    have HB' := hide hb'
    clear h1 h2 hb hb'
    go_enter Try.func23, Try.ntmps23
    go_wp2
    go_loopg [5] (n + 1) (fun g1 vk wr => ∃ k j : Nat, vk = .int .i64 k ∧ k ≤ n ∧ n - k < g1 ∧ Hid (wr = w.drewN j))
    case atStart => exact ⟨0, 0, by go_num, by omega, by omega, rfl⟩
    case round =>
      obtain ⟨k, j, rfl, hk, hg, HW⟩ := hrel
      by_cases hlt : k < n
      · have hltz : (k : Int) < (n : Int) := by omega
        have c1 : wr.cell? ⟨b, off + k, none⟩ = some (.int .i64 (f k)) := by rw [HW.out]; exact HB.out k hlt
        have c2 : wr.cell? ⟨b', off' + k, none⟩ = some (.int .i64 (f k)) := by rw [HW.out]; exact HB'.out k hlt
        go_wp2
        go_quiet (fail)
        have HW' : Hid (wr.drewN nq = w.drewN (j + nq)) := by show _ = _; rw [HW.out, World.drewN_drewN]
        clear HW c1 c2
        generalize wr.drewN nq = w2 at HW' ⊢
        go_wp2
        go_roundg (n - k)
        case measure => omega
        case rel => exact ⟨k + 1, j + nq, by go_num, by omega, by omega, HW'⟩
      · have hltz : ¬ (k : Int) < (n : Int) := by omega
        go_wp2
        go_ret
        exact ⟨rfl, j, HW.out⟩
end Go.Proofs.Ytdoenkngmgclmaa
