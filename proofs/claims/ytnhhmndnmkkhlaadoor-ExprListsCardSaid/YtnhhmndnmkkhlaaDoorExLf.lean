/- slices.Concat of two rows of ints; list. -/
import Derived.Test.YtnhhmndnmkkhlaaDoorExLe
namespace Go.Proofs.YtnhhmndnmkkhlaaDoor
open Go.RowKit Go.Sort
set_option linter.unusedVariables false
set_option linter.unusedSimpArgs false

def sm2 (m0 m1 : Nat) : Nat → Nat
  | 0 => 0
  | 1 => m0
  | _ => m0 + m1
def cat2 (g0 g1 : Nat → Int) (m0 m1 : Nat) : Nat → List Value
  | 0 => []
  | 1 => vcs g0 m0
  | _ => vcs g0 m0 ++ vcs g1 m1
/-- The numbers of two rows, one after the other. -/
def catG (g0 g1 : Nat → Int) (m0 : Nat) (i : Nat) : Int := if i < m0 then g0 i else g1 (i - m0)
theorem vcs_congr {g h : Nat → Int} : ∀ {m : Nat}, (∀ i, i < m → g i = h i) → vcs g m = vcs h m
  | 0, _ => rfl
  | m + 1, e => by rw [vcs_succ, vcs_succ, vcs_congr fun i hi => e i (by omega), e m (by omega)]
theorem vcs_cat (g0 g1 : Nat → Int) (m0 : Nat) : ∀ m1, vcs g0 m0 ++ vcs g1 m1 = vcs (catG g0 g1 m0) (m0 + m1)
  | 0 => by
    rw [show vcs g1 0 = [] from rfl, List.append_nil, Nat.add_zero]
    exact vcs_congr fun i hi => by simp [catG, hi]
  | m1 + 1 => by
    rw [vcs_succ, ← List.append_assoc, vcs_cat g0 g1 m0 m1, ← Nat.add_assoc, vcs_succ]
    have e : catG g0 g1 m0 (m0 + m1) = g1 m1 := by unfold catG; rw [if_neg (by omega), show m0 + m1 - m0 = m1 by omega]
    rw [e]
/-- The row's address has no spot. -/
def Plain (p : Option Addr) : Prop := ∀ q, p = some q → q.spot = none

set_option maxRecDepth 20000 in
set_option maxHeartbeats 1000000 in
theorem Concat_two (sb : Nat) (p0 p1 : Option Addr) (m0 m1 c0 c1 : Nat) (g0 g1 : Nat → Int) (w : World) (hS : Blk w sb 22 [.slice p0 m0 c0, .slice p1 m1 c1]) (h0 : m0 ≤ 200) (h1 : m1 ≤ 200) (q0 : Plain p0) (q1 : Plain p1)
    (r0 : Row w w.heap.size p0 m0 (fun i => nd 1 (g0 i))) (r1 : Row w w.heap.size p1 m1 (fun i => nd 1 (g1 i))) :
    Calls Tryd.prog 84 #[.slice (some ⟨sb, 0, none⟩) 2 2] w fun e w' => ∃ v, e = .returned v ∧ w'.ownsRow w.heap.size 24 4 v (m0 + m1) (vcs (catG g0 g1 m0) (m0 + m1)) ∧ Grew w w' := by
  have R0 := hide r0
  have R1 := hide r1
  have s0 := hS.cell 0 rfl
  have s1 := hS.cell 1 rfl
  have sl := hS.lt
  have KG := fun W => hide (Grow_nil (m0 + m1) W (by omega))
  have HC := hide (vcs_cat g0 g1 m0 m1)
  clear r0 r1
  go_enter Tryd.func84, Tryd.ntmps84
  go_wp2
  go_loopg [3, 11] 3 (fun gh sz vk wr => ∃ (i : Nat), vk = .int .i64 (i : Int) ∧ i ≤ 2 ∧ 2 - i < gh ∧ sz = .int .i64 ((sm2 m0 m1 i : Nat) : Int) ∧ wr = w)
  case atStart => exact ⟨0, by go_num, by omega, by omega, rfl, rfl⟩
  case round =>
    obtain ⟨i, rfl, hi, hgh, rfl, hw⟩ := hrel
    obtain ⟨wz, hz⟩ : ∃ wz : World, wz = wr := ⟨_, rfl⟩
    rw [← hz] at hw ⊢
    subst hw
    clear hz
    by_cases h2 : i = 2
    · subst h2
      simp only [sm2]
      go_wp2_with fail
      refine ((KG _).out).mono ?_
      rintro e w1 ⟨v0, rfl, own0, G1⟩
      have HO := hide own0
      have GB := hide G1.1
      have hsz := G1.size
      clear own0 G1 KG
      go_wp2
      go_loopg [6, 27] 3 (fun gh v vk wr => ∃ (i : Nat), vk = .int .i64 (i : Int) ∧ i ≤ 2 ∧ 2 - i < gh ∧ Hid (wr.ownsRow wz.heap.size 24 4 v (sm2 m0 m1 i) (cat2 g0 g1 m0 m1 i)) ∧ Hid (Below wz.heap.size wz wr))
      case atStart => exact ⟨0, by go_num, by omega, by omega, HO, GB⟩
      case round =>
        clear HO GB hsz
        obtain ⟨wo, rfl⟩ : ∃ wo : World, wo = wr := ⟨_, rfl⟩
        obtain ⟨i, rfl, hi, hgh, HO, GB⟩ := hrel
        by_cases h2 : i = 2
        · subst h2
          have own := HO.out
          simp only [sm2, cat2] at own
          rw [HC.out] at own
          have GG := GB.out
          clear HO GB R0 R1 HC
          go_wp2
          go_ret
          exact ⟨_, rfl, own, GG, trivial⟩
        · have y0 := (GB.out.cell (p := ⟨sb, 0, none⟩) sl).trans s0
          have y1 := (GB.out.cell (p := ⟨sb, 1, none⟩) sl).trans s1
          have RR0 := R0.out.below GB.out
          have RR1 := R1.out.below GB.out
          have hsz := GB.out.size
          have own := HO.out
          by_cases h0' : i = 0
          · subst h0'
            clear HO y1 RR1
            go_wp2_with (at_builtin; refine wpList_append_row _ rfl _ _ rfl wz.heap.size _ _ _ rfl own p0 m0 c0 wz.heap.size g0 rfl RR0 q0 (by simp only [sm2]; omega) hsz ?_; intro v' w7 hown' hgrow)
            have ZB := hide (Below.by GB.out own hgrow (Nat.le_refl _) (Nat.le_refl _))
            have HO2 : Hid (w7.ownsRow wz.heap.size 24 4 v' (sm2 m0 m1 1) (cat2 g0 g1 m0 m1 1)) := by
              refine hide ?_
              simpa [sm2, cat2] using hown'
            clear hown' hgrow own GB RR0 y0
            go_wp2
            go_roundg 2
            case measure => omega
            case rel => exact ⟨1, by go_num, by omega, by omega, HO2, ZB⟩
          · obtain rfl : i = 1 := by omega
            clear HO y0 RR0
            go_wp2_with (at_builtin; refine wpList_append_row _ rfl _ _ rfl wz.heap.size _ _ _ rfl own p1 m1 c1 wz.heap.size g1 rfl RR1 q1 (by simp only [sm2]; omega) hsz ?_; intro v' w7 hown' hgrow)
            have ZB := hide (Below.by GB.out own hgrow (Nat.le_refl _) (Nat.le_refl _))
            have HO2 : Hid (w7.ownsRow wz.heap.size 24 4 v' (sm2 m0 m1 2) (cat2 g0 g1 m0 m1 2)) := by
              refine hide ?_
              simpa [sm2, cat2] using hown'
            clear hown' hgrow own GB RR1 y1
            go_wp2
            go_roundg 1
            case measure => omega
            case rel => exact ⟨2, by go_num, by omega, by omega, HO2, ZB⟩
    · by_cases h0' : i = 0
      · subst h0'
        simp only [sm2]
        go_wp2
        go_roundg 2
        case measure => omega
        case rel => exact ⟨1, by go_num, by omega, by omega, by simp [sm2], rfl⟩
      · obtain rfl : i = 1 := by omega
        simp only [sm2]
        go_wp2
        go_roundg 1
        case measure => omega
        case rel => exact ⟨2, by go_num, by omega, by omega, by simp [sm2], rfl⟩
set_option maxHeartbeats 4000000 in
theorem elist_any (v : Value) (p : Option Addr) (m c : Nat) (hv : v = .slice p m c) (w : World) : Calls Tryd.prog 81 #[v] w fun e w' => e = .returned (lsV p m c) ∧ Grew w w' := by
  subst hv
  go_enter Tryd.func81, Tryd.ntmps81
  go_wp2
  refine bodyPost_ret (v := lsV p m c) (by simp [results, Tryd.results81, go_sem]) rfl ⟨rfl, ?_⟩
  repeat' (first | (with_reducible exact Grew.refl _) | (with_reducible refine Grew.setCell ?_ ?_ _) | (with_reducible refine Grew.drewN ?_ _) | (with_reducible refine Grew.reD ?_ _) | (with_reducible refine Grew.alloc ?_ _) | (dsimp only; omega))
end Go.Proofs.YtnhhmndnmkkhlaaDoor
