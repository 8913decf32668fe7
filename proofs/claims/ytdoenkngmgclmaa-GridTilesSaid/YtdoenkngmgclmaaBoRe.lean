/- What Resolve of the reference of package box returns where a number is out of range or there are too many elements; no other condition. -/
import Derived.Test.YtdoenkngmgclmaaBoBa
import Derived.Deep.Cut
import Derived.Deep.LoopGhost
namespace Go.Proofs.Ytdoenkngmgclmaa
open Go.RowKit Go.Sort
set_option linter.unusedVariables false
set_option linter.unusedSimpArgs false

set_option maxRecDepth 100000 in
set_option maxHeartbeats 40000000 in
theorem rResolve_long (av gap : Int) (p : Option Addr) (n c : Nat) (w : World) (hn : 100 < n) (hn2 : n ≤ 100000) :
    Calls Try.prog 40 #[.int .i64 av, .int .i64 gap, .slice p n c] w fun e w' => e = .returned (.tuple #[.slice none 0 0, .int .i64 2]) ∧ w = w' := by
  have hz : (100 : Int) < (n : Int) := by omega
  go_enter Try.func40, Try.ntmps40
  go_wp2
  go_ret2
  exact ⟨rfl, rfl⟩
def okB (x : Fx) : Bool := lenB x.ba && lenB x.mn && lenB x.mx && decide (0 ≤ x.gr ∧ x.gr ≤ 1000) && decide (0 ≤ x.sh ∧ x.sh ≤ 1000)
theorem okB_iff (x : Fx) : okB x = true ↔ okF x := by
  unfold okB okF lenB
  simp only [Bool.and_eq_true, decide_eq_true_eq]
  constructor
  · rintro ⟨⟨⟨⟨h1, h2⟩, h3⟩, h4⟩, h5⟩; exact ⟨h1, h2, h3, h4, h5⟩
  · rintro ⟨h1, h2, h3, h4, h5⟩; exact ⟨⟨⟨⟨h1, h2⟩, h3⟩, h4⟩, h5⟩
/-- All of the elements k to k + m - 1 are in range. -/
def okA (x : Nat → Fx) : Nat → Nat → Bool
  | _, 0 => true
  | k, m + 1 => okB (x k) && okA x (k + 1) m
set_option maxHeartbeats 40000000 in
set_option maxRecDepth 100000 in
theorem rResolve_bad (av gap : Int) (p : Option Addr) (n c : Nat) (x : Nat → Fx) (w : World) (hr : SRow w p n 5 (fxC x)) (hn : n ≤ 100) (hb : (lenB av && lenB gap && okA x 0 n) = false) :
    Calls Try.prog 40 #[.int .i64 av, .int .i64 gap, .slice p n c] w fun e w' => e = .returned (.tuple #[.slice none 0 0, .int .i64 1]) ∧ Below w.heap.size w w' := by
  have HR := hide hr
  have L1 := fun W => hide (rlength_any av W)
  have L2 := fun W => hide (rlength_any gap W)
  have hz : ¬ (100 : Int) < (n : Int) := by omega
  clear hr
  generalize lenB av = v1 at *
  generalize lenB gap = v2 at *
  cases v1
  · go_enter Try.func40, Try.ntmps40
    go_wp2_with fail
    refine (L1 _).out.mono ?_
    rintro e w' ⟨rfl, rfl⟩
    go_wp2
    go_ret2
    exact ⟨rfl, Below.refl _ _⟩
  cases v2
  · go_enter Try.func40, Try.ntmps40
    go_wp2_with fail
    refine (L1 _).out.mono ?_
    rintro e w' ⟨rfl, rfl⟩
    go_wp2_with fail
    refine (L2 _).out.mono ?_
    rintro e w' ⟨rfl, rfl⟩
    go_wp2
    go_ret2
    exact ⟨rfl, Below.refl _ _⟩
  have S0 : Hid (okA x 0 (n - 0) = false) := hide (by simpa using hb)
  clear hb
  go_enter Try.func40, Try.ntmps40
  go_wp2_with fail
  refine (L1 _).out.mono ?_
  rintro e w' ⟨rfl, rfl⟩
  go_wp2_with fail
  refine (L2 _).out.mono ?_
  rintro e w' ⟨rfl, rfl⟩
  go_wp2_with fail
  clear L1 L2
  go_loopg [8] (n + 1) (fun g1 vk wr => ∃ k : Nat, vk = .int .i64 (k : Int) ∧ k ≤ n ∧ n - k < g1 ∧ Hid (Below w.heap.size w wr) ∧ Hid (okA x k (n - k) = false))
  case atStart => exact ⟨0, by go_num, by omega, by omega, Below.refl _ _, S0⟩
  case round =>
    clear S0
    obtain ⟨wo, rfl⟩ : ∃ wo : World, wo = wr := ⟨_, rfl⟩
    obtain ⟨k, rfl, hk, hg, B, S⟩ := hrel
    by_cases hlt : k < n
    · have hltz : (k : Int) < (n : Int) := by omega
      obtain ⟨b, off, rfl, hb, hc⟩ := (HR.out.below B.out) (by omega)
      have S' : Hid ((okB (x k) && okA x (k + 1) (n - (k + 1))) = false) := by
        have := S.out
        rwa [show n - k = n - (k + 1) + 1 by omega, okA] at this
      have M1 := fun W => hide (rlength_any (x k).ba W)
      have M2 := fun W => hide (rlength_any (x k).mn W)
      have M3 := fun W => hide (rlength_any (x k).mx W)
      have c0 : wo.cell? ⟨b, off + k * 5, none⟩ = some (.int .i64 (x k).ba) := hc k hlt 0 (by decide)
      have c1 : wo.cell? ⟨b, off + k * 5 + 1, none⟩ = some (.int .i64 (x k).mn) := hc k hlt 1 (by decide)
      have c2 : wo.cell? ⟨b, off + k * 5 + 2, none⟩ = some (.int .i64 (x k).mx) := hc k hlt 2 (by decide)
      have c3 : wo.cell? ⟨b, off + k * 5 + 3, none⟩ = some (.int .i64 (x k).gr) := hc k hlt 3 (by decide)
      have c4 : wo.cell? ⟨b, off + k * 5 + 4, none⟩ = some (.int .i64 (x k).sh) := hc k hlt 4 (by decide)
      have B' : Hid (∀ o, Below w.heap.size w (wo.alloc o)) := fun o => B.out.alloc B.out.size o
      have hok : okB (x k) = (lenB (x k).ba && lenB (x k).mn && lenB (x k).mx && decide (0 ≤ (x k).gr ∧ (x k).gr ≤ 1000) && decide (0 ≤ (x k).sh ∧ (x k).sh ≤ 1000)) := rfl
      rw [hok] at S'
      clear hc hb B S hok
      generalize (x k).gr = x3 at *
      generalize (x k).sh = x4 at *
      generalize lenB (x k).ba = v1 at *
      generalize lenB (x k).mn = v2 at *
      generalize lenB (x k).mx = v3 at *
      generalize (x k).ba = x0 at *
      generalize (x k).mn = x1 at *
      generalize (x k).mx = x2 at *
      cases v1
      · skip
        go_wp2_with fail
        refine (M1 _).out.mono ?_
        rintro e w' ⟨rfl, rfl⟩
        go_wp2
        go_ret2
        exact ⟨rfl, B'.out _⟩
      cases v2
      · skip
        go_wp2_with fail
        refine (M1 _).out.mono ?_
        rintro e w' ⟨rfl, rfl⟩
        go_wp2_with fail
        refine (M2 _).out.mono ?_
        rintro e w' ⟨rfl, rfl⟩
        go_wp2
        go_ret2
        exact ⟨rfl, B'.out _⟩
      cases v3
      · skip
        go_wp2_with fail
        refine (M1 _).out.mono ?_
        rintro e w' ⟨rfl, rfl⟩
        go_wp2_with fail
        refine (M2 _).out.mono ?_
        rintro e w' ⟨rfl, rfl⟩
        go_wp2_with fail
        refine (M3 _).out.mono ?_
        rintro e w' ⟨rfl, rfl⟩
        go_wp2
        go_ret2
        exact ⟨rfl, B'.out _⟩
      by_cases h_x3 : x3 < 0
      · skip
        go_wp2_with fail
        refine (M1 _).out.mono ?_
        rintro e w' ⟨rfl, rfl⟩
        go_wp2_with fail
        refine (M2 _).out.mono ?_
        rintro e w' ⟨rfl, rfl⟩
        go_wp2_with fail
        refine (M3 _).out.mono ?_
        rintro e w' ⟨rfl, rfl⟩
        go_wp2
        go_ret2
        exact ⟨rfl, B'.out _⟩
      by_cases h_mx3 : 1000 < x3
      · skip
        go_wp2_with fail
        refine (M1 _).out.mono ?_
        rintro e w' ⟨rfl, rfl⟩
        go_wp2_with fail
        refine (M2 _).out.mono ?_
        rintro e w' ⟨rfl, rfl⟩
        go_wp2_with fail
        refine (M3 _).out.mono ?_
        rintro e w' ⟨rfl, rfl⟩
        go_wp2
        go_ret2
        exact ⟨rfl, B'.out _⟩
      by_cases h_x4 : x4 < 0
      · skip
        go_wp2_with fail
        refine (M1 _).out.mono ?_
        rintro e w' ⟨rfl, rfl⟩
        go_wp2_with fail
        refine (M2 _).out.mono ?_
        rintro e w' ⟨rfl, rfl⟩
        go_wp2_with fail
        refine (M3 _).out.mono ?_
        rintro e w' ⟨rfl, rfl⟩
        go_wp2
        go_ret2
        exact ⟨rfl, B'.out _⟩
      by_cases h_mx4 : 1000 < x4
      · skip
        go_wp2_with fail
        refine (M1 _).out.mono ?_
        rintro e w' ⟨rfl, rfl⟩
        go_wp2_with fail
        refine (M2 _).out.mono ?_
        rintro e w' ⟨rfl, rfl⟩
        go_wp2_with fail
        refine (M3 _).out.mono ?_
        rintro e w' ⟨rfl, rfl⟩
        go_wp2
        go_ret2
        exact ⟨rfl, B'.out _⟩
      have S2 : Hid (okA x (k + 1) (n - (k + 1)) = false) := by
        have := S'.out
        rw [decide_eq_true (show 0 ≤ x3 ∧ x3 ≤ 1000 by omega), decide_eq_true (show 0 ≤ x4 ∧ x4 ≤ 1000 by omega)] at this
        exact hide (by simpa using this)
      clear S'
      go_wp2_with fail
      refine (M1 _).out.mono ?_
      rintro e w' ⟨rfl, rfl⟩
      go_wp2_with fail
      refine (M2 _).out.mono ?_
      rintro e w' ⟨rfl, rfl⟩
      go_wp2_with fail
      refine (M3 _).out.mono ?_
      rintro e w' ⟨rfl, rfl⟩
      go_wp2_with fail
      go_roundg (n - k)
      case measure => omega
      case rel => exact ⟨k + 1, by go_num, by omega, by omega, B'.out _, S2⟩
    · exfalso
      have := S.out
      rw [show n - k = 0 by omega, okA] at this
      exact Bool.noConfusion this
end Go.Proofs.Ytdoenkngmgclmaa
