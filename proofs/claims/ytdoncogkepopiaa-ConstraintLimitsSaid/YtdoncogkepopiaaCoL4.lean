/- What the law ConstraintLimits runs, where Solve answers as the chapter asks; no other condition. -/
import Derived.Test.YtdoncogkepopiaaCoL1
import Derived.Test.YtdoncogkepopiaaBitM
import Derived.Test.YtdoncogkepopiaaCopR
namespace Go.Proofs.Ytdoncogkepopiaa
open Go.RowKit Go.Sort
set_option linter.unusedVariables false
set_option linter.unusedSimpArgs false

theorem below_ownC {w0 w w' : World} {row : Option Nat} (h : Below w0.heap.size w0 w) (hg : w.grownBy w' row) (hrow : ∀ k, row = some k → w0.heap.size ≤ k) : Below w0.heap.size w0 w' :=
  ⟨hg.os.trans h.os, hg.tape.trans h.tape, hg.output.trans h.output, Nat.le_trans h.size hg.size, fun k hk => (hg.block k (Nat.lt_of_lt_of_le hk h.size) (fun e => by have := hrow k e.symm; omega)).trans (h.block k hk)⟩
/-- Each asks a little more of the one variable. -/
def lmL (k : Nat) : Cn := ⟨0, -1, 0, k, 3⟩
theorem lm_ok {m k : Nat} (hk : k < m) (hm : m ≤ 1000) : okC (1 : Nat) (lmL k) := by
  unfold okC lmL
  dsimp only
  omega
theorem lm_sol {m : Nat} (hm : m ≤ 1000) (h1 : 1 ≤ m) (acc : Nat → Bool) : Sol 1 m lmL acc (fun _ => (m : Int) - 1) := by
  refine ⟨fun i hi => by dsimp only; omega, fun k hk _ => ?_⟩
  simp [satG, lmL, vF]
  omega
theorem lm_err {m : Nat} (hm : m ≤ 200) (h1 : 1 ≤ m) : erS (1 : Int) m lmL = 0 := by
  unfold erS
  rw [if_neg (by omega), if_neg (by omega), if_neg (fun q => q fun k hk => lm_ok hk (by omega)), if_pos]
  exact ⟨_, lm_sol (by omega) h1 _⟩
theorem lm_acc {m k : Nat} (hm : m ≤ 200) (h1 : 1 ≤ m) (hk : k < m) : acB 1 m lmL 3 k = true :=
  acB_all ⟨_, lm_sol (by omega) h1 _⟩ hk (by simp [lmL]) (by simp [lmL])
theorem lm_val {m : Nat} (hm : m ≤ 200) (h1 : 1 ≤ m) : lvF 1 m lmL (acB 1 m lmL 3) 0 = (m : Int) - 1 := by
  refine (lvF_of (y := fun _ => (m : Int) - 1) ⟨lm_sol (by omega) h1 _, fun z hz i hi => ?_⟩ (by decide)).symm
  have := (hz.2 (m - 1) (by omega) (lm_acc hm h1 (by omega))).1 (by simp [lmL])
  simp [lmL, vF] at this
  obtain rfl : i = 0 := by omega
  show (m : Int) - 1 ≤ z 0
  omega
theorem er_none {v : Int} (l : Nat → Cn) : erS v 0 l = if v < 0 ∨ 64 < v then 1 else 0 := by
  unfold erS
  by_cases h : v < 0 ∨ 64 < v
  · rw [if_pos h, if_pos h]
  · rw [if_neg h, if_neg h, if_neg (by omega), if_neg (fun q => q fun k hk => absurd hk (by omega)), if_pos]
    exact ⟨fun _ => 0, fun _ _ => ⟨Int.le_refl _, by dsimp only; omega⟩, fun k hk => absurd hk (by omega)⟩
set_option maxRecDepth 100000 in
set_option maxHeartbeats 20000000 in
theorem clim_core0 (hS : KSo 10) (n : Int) (hn : n % 4 = 0) (w : World) :
    Calls Try.prog 9 #[.int .i64 n] w fun e w' => e = .returned (.bool true) ∧ Below w.heap.size w w' := by
  have A := hide (fun w' => cawake_any hS w')
  have KS := hide hS
  have E0 := hide (er_none (v := 63) lmL)
  have K0 := hide (hS 63 none 0 0 lmL w (fun h => absurd h (by omega)) (by omega) (by omega))
  have m1 : IntKind.i64.wrap (63) = 63 := by decide
  clear hS
  obtain ⟨it, i1, i2, i3, i4⟩ := info_partsS info_cn
  go_enter Try.func9, Try.ntmps9
  go_wp2_with fail
  refine K0.out.mono ?_
  rintro e wa ⟨hy, hz, hB⟩
  obtain ⟨q1, c1, q2, c2, q3, c3, rfl, -, -, -, -⟩ := hy (by rw [E0.out]; decide)
  have BB : Hid (Below w.heap.size w (wa.alloc (.cells #[.int .i64 63, .slice q1 0 c1, .slice q2 0 c2, .slice q3 63 c3] 26))) := hB.alloc hB.size _
  have O0 : Hid ((wa.alloc (.cells #[.int .i64 63, .slice q1 0 c1, .slice q2 0 c2, .slice q3 63 c3] 26)).ownsRow w.heap.size 40 5 (.slice none 0 0) 0 (flat 0 5 (cnC lmL))) := World.ownsRow_nil _ _ _ _
  have O1 : ∀ i r, (cnC lmL i r).oneCell' = true := fun i r => cn_one lmL i r
  clear hy hz hB K0 E0
  go_wp2_with fail
  go_loopg [5, 6] 200 (fun g1 va vk wr => ∃ (k : Nat) (v : Value), v = va ∧ vk = .int .i64 (k : Int) ∧ k ≤ 199 ∧ 199 - k < g1 ∧ Hid (Below w.heap.size w wr) ∧ Hid (wr.ownsRow w.heap.size 40 5 v k (flat k 5 (cnC lmL))))
  case atStart => exact ⟨0, _, rfl, by go_num, by omega, by omega, BB, O0⟩
  case round =>
    clear O0 BB
    obtain ⟨wo, rfl⟩ : ∃ wo : World, wo = wr := ⟨_, rfl⟩
    obtain ⟨k, v, rfl, rfl, hk, hg, B, O⟩ := hrel
    by_cases hlt : k < 199
    · have hltz : (k : Int) < 199 := by omega
      have O' := O.out
      have wsz : w.heap.size ≤ wo.heap.size := B.out.size
      have eF : Hid (flat (k + 1) 5 (cnC lmL) = flat k 5 (cnC lmL) ++ [.int .i64 0, .int .i64 (-1), .int .i64 0, .int .i64 (k : Int), .int .i64 3]) := by
        show _ = _
        rw [flat_succ]; rfl
      have BN : Hid (Blk (wo.alloc (.cells [.int .i64 0, .int .i64 (-1), .int .i64 0, .int .i64 (k : Int), .int .i64 3].toArray 40)) wo.heap.size 40 [.int .i64 0, .int .i64 (-1), .int .i64 0, .int .i64 (k : Int), .int .i64 3]) := Blk.new rfl
      go_wp2_with (at_builtin; refine wpList_append_own _ rfl _ _ 22 rfl w.heap.size 40 it _ 5 40 Try.underlying22 i1 i2 i3 i4 rfl (by decide) _ _ _ rfl (O'.alloc _) ⟨wo.heap.size, 0, none⟩ 1 1 [.int .i64 0, .int .i64 (-1), .int .i64 0, .int .i64 (k : Int), .int .i64 3] rfl rfl ?c1 ?c2 ?c3 ?c4 ?c5 ?_)
      case c1 =>
        intro j u hj
        rw [addr_add]
        exact BN.out.cell j hj
      case c2 => intro u hu; simp at hu; rcases hu with rfl | rfl | rfl | rfl | rfl <;> rfl
      case c3 => unfold maxLen; omega
      case c4 => omega
      case c5 => simp; omega
      · intro v' w6 hown' hgrow hnil
        have NB : Hid (Below w.heap.size w w6) := below_ownC (B.out.alloc B.out.size _) hgrow (own_lt O')
        have NO : Hid (w6.ownsRow w.heap.size 40 5 v' (k + 1) (flat (k + 1) 5 (cnC lmL))) := by rw [eF.out]; exact hown'
        clear hown' hgrow hnil O' O B BN eF
        go_wp2_with fail
        go_roundg (199 - k)
        case measure => omega
        case rel => exact ⟨k + 1, _, rfl, by go_num, by omega, by omega, NB, NO⟩
    have hltz : ¬ (k : Int) < 199 := by omega
    obtain rfl : k = 199 := by omega
    obtain ⟨q, c, rfl, hc, hp⟩ := own_srow O.out
    have K1 := hide (KS.out 1 q 199 c lmL wo hp hc (by decide))
    clear O hp i1 i2 i3 i4
    go_wp2_with fail
    refine K1.out.mono ?_
    rintro e w1 ⟨hy, hz, hB⟩
    obtain ⟨p1, d1, p2, d2, p3, d3, rfl, -, -, -, hx⟩ := hy (lm_err (by decide) (by decide))
    rw [show (1 : Int).toNat = 1 from rfl] at *
    obtain ⟨b3, o3, rfl, hxc⟩ := hx (by decide)
    have v0 : w1.cell? ⟨b3, o3, none⟩ = some (.int .i64 198) := (hxc 0 (by decide)).trans (by rw [lm_val (by decide) (by decide)]; rfl)
    have hb3 : b3 < w1.heap.size := World.block_lt_of_cell? _ _ v0
    have B2 : Hid (Below w.heap.size w w1) := B.out.trans (hB.mono B.out.size)
    have y0 := sys_blk w1 1 p1 199 d1 p2 199 d2 (some ⟨b3, o3, none⟩) 1 d3
    have B3 : Hid (Below w.heap.size w (w1.alloc (.cells #[.int .i64 1, .slice p1 199 d1, .slice p2 199 d2, .slice (some ⟨b3, o3, none⟩) 1 d3] 26))) := B2.out.alloc B2.out.size _
    clear hy hz hx hxc hB B K1
    go_wp2_with fail
    refine (A.out _).mono ?_
    rintro e w4 ⟨rfl, h⟩
    have B5 : Hid (Below w.heap.size w w4) := B3.out.trans (h.mono B3.out.size)
    clear h B3 y0 v0 B2
    go_wp2_with fail
    go_ret
    exact ⟨rfl, B5.out⟩
set_option maxRecDepth 100000 in
set_option maxHeartbeats 20000000 in
theorem clim_core1 (hS : KSo 10) (n : Int) (hn : n % 4 = 1) (w : World) :
    Calls Try.prog 9 #[.int .i64 n] w fun e w' => e = .returned (.bool true) ∧ Below w.heap.size w w' := by
  have A := hide (fun w' => cawake_any hS w')
  have KS := hide hS
  have E0 := hide (er_none (v := 64) lmL)
  have K0 := hide (hS 64 none 0 0 lmL w (fun h => absurd h (by omega)) (by omega) (by omega))
  have m1 : IntKind.i64.wrap (64) = 64 := by decide
  clear hS
  obtain ⟨it, i1, i2, i3, i4⟩ := info_partsS info_cn
  go_enter Try.func9, Try.ntmps9
  go_wp2_with fail
  refine K0.out.mono ?_
  rintro e wa ⟨hy, hz, hB⟩
  obtain ⟨q1, c1, q2, c2, q3, c3, rfl, -, -, -, -⟩ := hy (by rw [E0.out]; decide)
  have BB : Hid (Below w.heap.size w (wa.alloc (.cells #[.int .i64 64, .slice q1 0 c1, .slice q2 0 c2, .slice q3 64 c3] 26))) := hB.alloc hB.size _
  have O0 : Hid ((wa.alloc (.cells #[.int .i64 64, .slice q1 0 c1, .slice q2 0 c2, .slice q3 64 c3] 26)).ownsRow w.heap.size 40 5 (.slice none 0 0) 0 (flat 0 5 (cnC lmL))) := World.ownsRow_nil _ _ _ _
  have O1 : ∀ i r, (cnC lmL i r).oneCell' = true := fun i r => cn_one lmL i r
  clear hy hz hB K0 E0
  go_wp2_with fail
  go_loopg [5, 6] 201 (fun g1 va vk wr => ∃ (k : Nat) (v : Value), v = va ∧ vk = .int .i64 (k : Int) ∧ k ≤ 200 ∧ 200 - k < g1 ∧ Hid (Below w.heap.size w wr) ∧ Hid (wr.ownsRow w.heap.size 40 5 v k (flat k 5 (cnC lmL))))
  case atStart => exact ⟨0, _, rfl, by go_num, by omega, by omega, BB, O0⟩
  case round =>
    clear O0 BB
    obtain ⟨wo, rfl⟩ : ∃ wo : World, wo = wr := ⟨_, rfl⟩
    obtain ⟨k, v, rfl, rfl, hk, hg, B, O⟩ := hrel
    by_cases hlt : k < 200
    · have hltz : (k : Int) < 200 := by omega
      have O' := O.out
      have wsz : w.heap.size ≤ wo.heap.size := B.out.size
      have eF : Hid (flat (k + 1) 5 (cnC lmL) = flat k 5 (cnC lmL) ++ [.int .i64 0, .int .i64 (-1), .int .i64 0, .int .i64 (k : Int), .int .i64 3]) := by
        show _ = _
        rw [flat_succ]; rfl
      have BN : Hid (Blk (wo.alloc (.cells [.int .i64 0, .int .i64 (-1), .int .i64 0, .int .i64 (k : Int), .int .i64 3].toArray 40)) wo.heap.size 40 [.int .i64 0, .int .i64 (-1), .int .i64 0, .int .i64 (k : Int), .int .i64 3]) := Blk.new rfl
      go_wp2_with (at_builtin; refine wpList_append_own _ rfl _ _ 22 rfl w.heap.size 40 it _ 5 40 Try.underlying22 i1 i2 i3 i4 rfl (by decide) _ _ _ rfl (O'.alloc _) ⟨wo.heap.size, 0, none⟩ 1 1 [.int .i64 0, .int .i64 (-1), .int .i64 0, .int .i64 (k : Int), .int .i64 3] rfl rfl ?c1 ?c2 ?c3 ?c4 ?c5 ?_)
      case c1 =>
        intro j u hj
        rw [addr_add]
        exact BN.out.cell j hj
      case c2 => intro u hu; simp at hu; rcases hu with rfl | rfl | rfl | rfl | rfl <;> rfl
      case c3 => unfold maxLen; omega
      case c4 => omega
      case c5 => simp; omega
      · intro v' w6 hown' hgrow hnil
        have NB : Hid (Below w.heap.size w w6) := below_ownC (B.out.alloc B.out.size _) hgrow (own_lt O')
        have NO : Hid (w6.ownsRow w.heap.size 40 5 v' (k + 1) (flat (k + 1) 5 (cnC lmL))) := by rw [eF.out]; exact hown'
        clear hown' hgrow hnil O' O B BN eF
        go_wp2_with fail
        go_roundg (200 - k)
        case measure => omega
        case rel => exact ⟨k + 1, _, rfl, by go_num, by omega, by omega, NB, NO⟩
    have hltz : ¬ (k : Int) < 200 := by omega
    obtain rfl : k = 200 := by omega
    obtain ⟨q, c, rfl, hc, hp⟩ := own_srow O.out
    have K1 := hide (KS.out 1 q 200 c lmL wo hp hc (by decide))
    clear O hp i1 i2 i3 i4
    go_wp2_with fail
    refine K1.out.mono ?_
    rintro e w1 ⟨hy, hz, hB⟩
    obtain ⟨p1, d1, p2, d2, p3, d3, rfl, -, -, -, hx⟩ := hy (lm_err (by decide) (by decide))
    rw [show (1 : Int).toNat = 1 from rfl] at *
    obtain ⟨b3, o3, rfl, hxc⟩ := hx (by decide)
    have v0 : w1.cell? ⟨b3, o3, none⟩ = some (.int .i64 199) := (hxc 0 (by decide)).trans (by rw [lm_val (by decide) (by decide)]; rfl)
    have hb3 : b3 < w1.heap.size := World.block_lt_of_cell? _ _ v0
    have B2 : Hid (Below w.heap.size w w1) := B.out.trans (hB.mono B.out.size)
    have y0 := sys_blk w1 1 p1 200 d1 p2 200 d2 (some ⟨b3, o3, none⟩) 1 d3
    have B3 : Hid (Below w.heap.size w (w1.alloc (.cells #[.int .i64 1, .slice p1 200 d1, .slice p2 200 d2, .slice (some ⟨b3, o3, none⟩) 1 d3] 26))) := B2.out.alloc B2.out.size _
    clear hy hz hx hxc hB B K1
    go_wp2_with fail
    refine (A.out _).mono ?_
    rintro e w4 ⟨rfl, h⟩
    have B5 : Hid (Below w.heap.size w w4) := B3.out.trans (h.mono B3.out.size)
    clear h B3 y0 v0 B2
    go_wp2_with fail
    go_ret
    exact ⟨rfl, B5.out⟩
set_option maxRecDepth 100000 in
set_option maxHeartbeats 20000000 in
theorem clim_core2 (hS : KSo 10) (n : Int) (hn : n % 4 = 2) (w : World) :
    Calls Try.prog 9 #[.int .i64 n] w fun e w' => e = .returned (.bool true) ∧ Below w.heap.size w w' := by
  have A := hide (fun w' => cawake_any hS w')
  have KS := hide hS
  have E0 := hide (er_none (v := 65) lmL)
  have K0 := hide (hS 65 none 0 0 lmL w (fun h => absurd h (by omega)) (by omega) (by omega))
  have m1 : IntKind.i64.wrap (65) = 65 := by decide
  clear hS
  obtain ⟨it, i1, i2, i3, i4⟩ := info_partsS info_cn
  go_enter Try.func9, Try.ntmps9
  go_wp2_with fail
  refine K0.out.mono ?_
  rintro e wa ⟨hy, hz, hB⟩
  have E1 : erS 65 0 lmL = 1 := by rw [E0.out]; decide
  have hz' := hz (by rw [E1]; decide)
  rw [E1] at hz'
  subst hz'
  have BB : Hid (Below w.heap.size w (wa.alloc (.cells #[.int .i64 0, .slice none 0 0, .slice none 0 0, .slice none 0 0] 26))) := hB.alloc hB.size _
  have O0 : Hid ((wa.alloc (.cells #[.int .i64 0, .slice none 0 0, .slice none 0 0, .slice none 0 0] 26)).ownsRow w.heap.size 40 5 (.slice none 0 0) 0 (flat 0 5 (cnC lmL))) := World.ownsRow_nil _ _ _ _
  have O1 : ∀ i r, (cnC lmL i r).oneCell' = true := fun i r => cn_one lmL i r
  clear hy hz hB K0 E0
  go_wp2_with fail
  go_loopg [5, 6] 202 (fun g1 va vk wr => ∃ (k : Nat) (v : Value), v = va ∧ vk = .int .i64 (k : Int) ∧ k ≤ 201 ∧ 201 - k < g1 ∧ Hid (Below w.heap.size w wr) ∧ Hid (wr.ownsRow w.heap.size 40 5 v k (flat k 5 (cnC lmL))))
  case atStart => exact ⟨0, _, rfl, by go_num, by omega, by omega, BB, O0⟩
  case round =>
    clear O0 BB
    obtain ⟨wo, rfl⟩ : ∃ wo : World, wo = wr := ⟨_, rfl⟩
    obtain ⟨k, v, rfl, rfl, hk, hg, B, O⟩ := hrel
    by_cases hlt : k < 201
    · have hltz : (k : Int) < 201 := by omega
      have O' := O.out
      have wsz : w.heap.size ≤ wo.heap.size := B.out.size
      have eF : Hid (flat (k + 1) 5 (cnC lmL) = flat k 5 (cnC lmL) ++ [.int .i64 0, .int .i64 (-1), .int .i64 0, .int .i64 (k : Int), .int .i64 3]) := by
        show _ = _
        rw [flat_succ]; rfl
      have BN : Hid (Blk (wo.alloc (.cells [.int .i64 0, .int .i64 (-1), .int .i64 0, .int .i64 (k : Int), .int .i64 3].toArray 40)) wo.heap.size 40 [.int .i64 0, .int .i64 (-1), .int .i64 0, .int .i64 (k : Int), .int .i64 3]) := Blk.new rfl
      go_wp2_with (at_builtin; refine wpList_append_own _ rfl _ _ 22 rfl w.heap.size 40 it _ 5 40 Try.underlying22 i1 i2 i3 i4 rfl (by decide) _ _ _ rfl (O'.alloc _) ⟨wo.heap.size, 0, none⟩ 1 1 [.int .i64 0, .int .i64 (-1), .int .i64 0, .int .i64 (k : Int), .int .i64 3] rfl rfl ?c1 ?c2 ?c3 ?c4 ?c5 ?_)
      case c1 =>
        intro j u hj
        rw [addr_add]
        exact BN.out.cell j hj
      case c2 => intro u hu; simp at hu; rcases hu with rfl | rfl | rfl | rfl | rfl <;> rfl
      case c3 => unfold maxLen; omega
      case c4 => omega
      case c5 => simp; omega
      · intro v' w6 hown' hgrow hnil
        have NB : Hid (Below w.heap.size w w6) := below_ownC (B.out.alloc B.out.size _) hgrow (own_lt O')
        have NO : Hid (w6.ownsRow w.heap.size 40 5 v' (k + 1) (flat (k + 1) 5 (cnC lmL))) := by rw [eF.out]; exact hown'
        clear hown' hgrow hnil O' O B BN eF
        go_wp2_with fail
        go_roundg (201 - k)
        case measure => omega
        case rel => exact ⟨k + 1, _, rfl, by go_num, by omega, by omega, NB, NO⟩
    have hltz : ¬ (k : Int) < 201 := by omega
    obtain rfl : k = 201 := by omega
    obtain ⟨q, c, rfl, hc, hp⟩ := own_srow O.out
    have K1 := hide (KS.out 1 q 201 c lmL wo hp hc (by decide))
    clear O hp i1 i2 i3 i4
    go_wp2_with fail
    refine K1.out.mono ?_
    rintro e w1 ⟨hy, hz, hB⟩
    have E2 : erS 1 201 lmL = 2 := erS_long (by omega) (by decide)
    have hz' := hz (by rw [E2]; decide)
    rw [E2] at hz'
    subst hz'
    have B2 : Hid (Below w.heap.size w w1) := B.out.trans (hB.mono B.out.size)
    have B3 : Hid (Below w.heap.size w (w1.alloc (.cells #[.int .i64 0, .slice none 0 0, .slice none 0 0, .slice none 0 0] 26))) := B2.out.alloc B2.out.size _
    clear hy hz hB B K1
    go_wp2_with fail
    refine (A.out _).mono ?_
    rintro e w4 ⟨rfl, h⟩
    have B5 : Hid (Below w.heap.size w w4) := B3.out.trans (h.mono B3.out.size)
    clear h B3 B2
    go_wp2_with fail
    go_ret
    exact ⟨rfl, B5.out⟩
set_option maxRecDepth 100000 in
set_option maxHeartbeats 20000000 in
theorem clim_core3 (hS : KSo 10) (n : Int) (hn : n % 4 = 3) (w : World) :
    Calls Try.prog 9 #[.int .i64 n] w fun e w' => e = .returned (.bool true) ∧ Below w.heap.size w w' := by
  have A := hide (fun w' => cawake_any hS w')
  have KS := hide hS
  have E0 := hide (er_none (v := 66) lmL)
  have K0 := hide (hS 66 none 0 0 lmL w (fun h => absurd h (by omega)) (by omega) (by omega))
  have m1 : IntKind.i64.wrap (66) = 66 := by decide
  clear hS
  obtain ⟨it, i1, i2, i3, i4⟩ := info_partsS info_cn
  go_enter Try.func9, Try.ntmps9
  go_wp2_with fail
  refine K0.out.mono ?_
  rintro e wa ⟨hy, hz, hB⟩
  have E1 : erS 66 0 lmL = 1 := by rw [E0.out]; decide
  have hz' := hz (by rw [E1]; decide)
  rw [E1] at hz'
  subst hz'
  have BB : Hid (Below w.heap.size w (wa.alloc (.cells #[.int .i64 0, .slice none 0 0, .slice none 0 0, .slice none 0 0] 26))) := hB.alloc hB.size _
  have O0 : Hid ((wa.alloc (.cells #[.int .i64 0, .slice none 0 0, .slice none 0 0, .slice none 0 0] 26)).ownsRow w.heap.size 40 5 (.slice none 0 0) 0 (flat 0 5 (cnC lmL))) := World.ownsRow_nil _ _ _ _
  have O1 : ∀ i r, (cnC lmL i r).oneCell' = true := fun i r => cn_one lmL i r
  clear hy hz hB K0 E0
  go_wp2_with fail
  go_loopg [5, 6] 203 (fun g1 va vk wr => ∃ (k : Nat) (v : Value), v = va ∧ vk = .int .i64 (k : Int) ∧ k ≤ 202 ∧ 202 - k < g1 ∧ Hid (Below w.heap.size w wr) ∧ Hid (wr.ownsRow w.heap.size 40 5 v k (flat k 5 (cnC lmL))))
  case atStart => exact ⟨0, _, rfl, by go_num, by omega, by omega, BB, O0⟩
  case round =>
    clear O0 BB
    obtain ⟨wo, rfl⟩ : ∃ wo : World, wo = wr := ⟨_, rfl⟩
    obtain ⟨k, v, rfl, rfl, hk, hg, B, O⟩ := hrel
    by_cases hlt : k < 202
    · have hltz : (k : Int) < 202 := by omega
      have O' := O.out
      have wsz : w.heap.size ≤ wo.heap.size := B.out.size
      have eF : Hid (flat (k + 1) 5 (cnC lmL) = flat k 5 (cnC lmL) ++ [.int .i64 0, .int .i64 (-1), .int .i64 0, .int .i64 (k : Int), .int .i64 3]) := by
        show _ = _
        rw [flat_succ]; rfl
      have BN : Hid (Blk (wo.alloc (.cells [.int .i64 0, .int .i64 (-1), .int .i64 0, .int .i64 (k : Int), .int .i64 3].toArray 40)) wo.heap.size 40 [.int .i64 0, .int .i64 (-1), .int .i64 0, .int .i64 (k : Int), .int .i64 3]) := Blk.new rfl
      go_wp2_with (at_builtin; refine wpList_append_own _ rfl _ _ 22 rfl w.heap.size 40 it _ 5 40 Try.underlying22 i1 i2 i3 i4 rfl (by decide) _ _ _ rfl (O'.alloc _) ⟨wo.heap.size, 0, none⟩ 1 1 [.int .i64 0, .int .i64 (-1), .int .i64 0, .int .i64 (k : Int), .int .i64 3] rfl rfl ?c1 ?c2 ?c3 ?c4 ?c5 ?_)
      case c1 =>
        intro j u hj
        rw [addr_add]
        exact BN.out.cell j hj
      case c2 => intro u hu; simp at hu; rcases hu with rfl | rfl | rfl | rfl | rfl <;> rfl
      case c3 => unfold maxLen; omega
      case c4 => omega
      case c5 => simp; omega
      · intro v' w6 hown' hgrow hnil
        have NB : Hid (Below w.heap.size w w6) := below_ownC (B.out.alloc B.out.size _) hgrow (own_lt O')
        have NO : Hid (w6.ownsRow w.heap.size 40 5 v' (k + 1) (flat (k + 1) 5 (cnC lmL))) := by rw [eF.out]; exact hown'
        clear hown' hgrow hnil O' O B BN eF
        go_wp2_with fail
        go_roundg (202 - k)
        case measure => omega
        case rel => exact ⟨k + 1, _, rfl, by go_num, by omega, by omega, NB, NO⟩
    have hltz : ¬ (k : Int) < 202 := by omega
    obtain rfl : k = 202 := by omega
    obtain ⟨q, c, rfl, hc, hp⟩ := own_srow O.out
    have K1 := hide (KS.out 1 q 202 c lmL wo hp hc (by decide))
    clear O hp i1 i2 i3 i4
    go_wp2_with fail
    refine K1.out.mono ?_
    rintro e w1 ⟨hy, hz, hB⟩
    have E2 : erS 1 202 lmL = 2 := erS_long (by omega) (by decide)
    have hz' := hz (by rw [E2]; decide)
    rw [E2] at hz'
    subst hz'
    have B2 : Hid (Below w.heap.size w w1) := B.out.trans (hB.mono B.out.size)
    have B3 : Hid (Below w.heap.size w (w1.alloc (.cells #[.int .i64 0, .slice none 0 0, .slice none 0 0, .slice none 0 0] 26))) := B2.out.alloc B2.out.size _
    clear hy hz hB B K1
    go_wp2_with fail
    refine (A.out _).mono ?_
    rintro e w4 ⟨rfl, h⟩
    have B5 : Hid (Below w.heap.size w w4) := B3.out.trans (h.mono B3.out.size)
    clear h B3 B2
    go_wp2_with fail
    go_ret
    exact ⟨rfl, B5.out⟩
theorem clim_core (hS : KSo 10) (n : Int) (w : World) :
    Calls Try.prog 9 #[.int .i64 n] w fun e w' => e = .returned (.bool true) ∧ Below w.heap.size w w' := by
  rcases (show n % 4 = 0 ∨ n % 4 = 1 ∨ n % 4 = 2 ∨ n % 4 = 3 by omega) with h | h | h | h
  · exact clim_core0 hS n h w
  · exact clim_core1 hS n h w
  · exact clim_core2 hS n h w
  · exact clim_core3 hS n h w
end Go.Proofs.Ytdoncogkepopiaa
