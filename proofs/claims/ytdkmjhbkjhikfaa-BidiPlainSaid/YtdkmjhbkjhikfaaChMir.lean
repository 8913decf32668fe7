/- What Bracket and Mirror return for every rune, in the program; no condition but that the argument is a rune's number. -/
import Derived.Test.YtdkmjhbkjhikfaaChFns
import Derived.Deep.LoopGhost
import Derived.Deep.Cut
import Derived.Deep.QuietTactic
import Derived.BigQuiet
namespace Go.Proofs.Ytdkmjhbkjhikfaa
open Go.RowKit Go.Sort Go.Great
set_option linter.unusedSimpArgs false
set_option linter.unusedVariables false

def bo (k : Nat) : Int := [40, 91, 123, 12296, 12298, 12300, 12302, 12304].getD k 0
def bc (k : Nat) : Int := [41, 93, 125, 12297, 12299, 12301, 12303, 12305].getD k 0
/-- The kind of a bracket and its other rune. -/
def brS (r : Int) : Int × Int :=
  if r = 40 then (1, 41) else if r = 41 then (2, 40) else if r = 91 then (1, 93) else if r = 93 then (2, 91) else if r = 123 then (1, 125) else if r = 125 then (2, 123)
  else if r = 12296 then (1, 12297) else if r = 12297 then (2, 12296) else if r = 12298 then (1, 12299) else if r = 12299 then (2, 12298) else if r = 12300 then (1, 12301) else if r = 12301 then (2, 12300)
  else if r = 12302 then (1, 12303) else if r = 12303 then (2, 12302) else if r = 12304 then (1, 12305) else if r = 12305 then (2, 12304) else (0, 0)
/-- The other rune of a pair, or the rune itself. -/
def miS (r : Int) : Int := if (brS r).1 = 0 then (if r = 60 then 62 else if r = 62 then 60 else if r = 171 then 187 else if r = 187 then 171 else if r = 8804 then 8805 else if r = 8805 then 8804 else r) else (brS r).2
theorem k8 {k : Nat} (h : k < 8) : k = 0 ∨ k = 1 ∨ k = 2 ∨ k = 3 ∨ k = 4 ∨ k = 5 ∨ k = 6 ∨ k = 7 := by omega
theorem br_open {k : Nat} (h : k < 8) : brS (bo k) = (1, bc k) := by
  rcases k8 h with rfl | rfl | rfl | rfl | rfl | rfl | rfl | rfl <;> decide
theorem br_close {k : Nat} (h : k < 8) : brS (bc k) = (2, bo k) := by
  rcases k8 h with rfl | rfl | rfl | rfl | rfl | rfl | rfl | rfl <;> decide
theorem br_none {r : Int} (h : ∀ k, k < 8 → r ≠ bo k ∧ r ≠ bc k) : brS r = (0, 0) := by
  have h0 := h 0 (by omega)
  have h1 := h 1 (by omega)
  have h2 := h 2 (by omega)
  have h3 := h 3 (by omega)
  have h4 := h 4 (by omega)
  have h5 := h 5 (by omega)
  have h6 := h 6 (by omega)
  have h7 := h 7 (by omega)
  simp only [bo, bc, List.getD_cons_zero, List.getD_cons_succ] at h0 h1 h2 h3 h4 h5 h6 h7
  simp only [brS]
  simp only [h0, h1, h2, h3, h4, h5, h6, h7, if_false]
theorem bo_bounds {k : Nat} (h : k < 8) : 0 ≤ bo k ∧ bo k ≤ 20000 ∧ 0 ≤ bc k ∧ bc k ≤ 20000 := by
  rcases k8 h with rfl | rfl | rfl | rfl | rfl | rfl | rfl | rfl <;> decide

abbrev brV : Value := .agg #[.int .i32 40, .int .i32 41, .int .i32 91, .int .i32 93, .int .i32 123, .int .i32 125, .int .i32 12296, .int .i32 12297, .int .i32 12298, .int .i32 12299, .int .i32 12300, .int .i32 12301, .int .i32 12302, .int .i32 12303, .int .i32 12304, .int .i32 12305]
theorem index_br {k : Nat} (h : k < 8) (W : World) : (Instr.index 110 brV (.int .i64 k)).run Try.prog W = .ok (.agg #[.int .i32 (bo k), .int .i32 (bc k)]) W := by
  rcases k8 h with rfl | rfl | rfl | rfl | rfl | rfl | rfl | rfl <;> kernel_rfl

set_option maxHeartbeats 1000000 in
theorem brackets_any (w : World) : Calls Try.prog 86 #[] w fun e w' => e = .returned brV ∧ Grew w w' := by
  go_enter Try.func86, Try.ntmps86
  go_wp2
  refine bodyPost_ret (R := fun e w' => e = .returned brV ∧ Grew w w') (results_cell_row rfl _ _ w.heap.size 110 _ (0, 0) (.array 8 109) ?_ (heap_alloc_new w _) (by kernel_rfl) rfl (by kernel_rfl)) ?_ ⟨rfl, (Grew.refl w).alloc _⟩ <;> rfl

def BrRound (r : Int) (w : World) (k : Nat) (wr : World) : Prop := Grew w wr ∧ ∀ i, i < k → r ≠ bo i ∧ r ≠ bc i
set_option maxHeartbeats 1000000 in
theorem Bracket_any (r : Int) (w : World) (hr : -2147483648 ≤ r ∧ r ≤ 2147483647) : Calls Try.prog 82 #[.int .i32 r] w fun e w' => e = .returned (.tuple #[.int .i64 (brS r).1, .int .i32 (brS r).2]) ∧ Grew w w' := by
  have C := hide (brackets_any w)
  have IX := hide (fun k (h : k < 8) W => index_br h W)
  obtain ⟨V, hV⟩ : ∃ V, V = brV := ⟨_, rfl⟩
  rw [← hV] at C IX
  clear hV
  obtain ⟨r1, r2⟩ := hr
  obtain ⟨S, hS⟩ : ∃ S, S = brS r := ⟨_, rfl⟩
  have HS := hide hS
  rw [← hS]
  clear hS
  go_enter Try.func82, Try.ntmps82
  go_wp2_with fail
  refine C.out.mono ?_
  rintro e w1 ⟨rfl, G1⟩
  have R0 : Hid (BrRound r w 0 w1) := ⟨G1, fun i hi => absurd hi (by omega)⟩
  clear G1 C
  go_wp2
  go_loopg [7] 9 (fun g v wr => ∃ k : Nat, v = .int .i64 k ∧ k ≤ 8 ∧ 8 - k < g ∧ Hid (BrRound r w k wr))
  case atStart => exact ⟨0, by go_num, by omega, by omega, R0⟩
  case round =>
    clear R0
    obtain ⟨wo, rfl⟩ : ∃ wo : World, wo = wr := ⟨_, rfl⟩
    obtain ⟨k, rfl, hk, hg, R1⟩ := hrel
    by_cases hlt : k < 8
    · have hltz : (k : Int) < 8 := by omega
      have X := IX.out k hlt
      obtain ⟨b1, b2, b3, b4⟩ := bo_bounds hlt
      have G1 := R1.out.1
      have N1 := hide R1.out.2
      have hKO : ∃ o, o = bo k := ⟨_, rfl⟩
      obtain ⟨o, ho⟩ := hKO
      obtain ⟨c, hc⟩ : ∃ c, c = bc k := ⟨_, rfl⟩
      rw [← ho, ← hc] at X
      rw [← ho] at b1 b2
      rw [← hc] at b3 b4
      have HO := hide ho
      have HC := hide hc
      clear ho hc R1
      replace G1 := hide G1
      go_upto_region 4 with (fail)
      have G2 := hide (G1.out.alloc (.cells #[.int .i32 o, .int .i32 c] 109))
      have D2 : Blk (wo.alloc (.cells #[.int .i32 o, .int .i32 c] 109)) wo.heap.size 109 [.int .i32 o, .int .i32 c] := Blk.new rfl
      generalize wo.alloc _ = W at G2 D2 ⊢
      generalize wo.heap.size = p at D2 ⊢
      have c0 := D2.cell 0 rfl
      have c1 := D2.cell 1 rfl
      replace D2 := hide D2
      clear X G1
      by_cases t1 : r = o
      · subst t1
        have E : Hid (S = (1, c)) := by show S = _; rw [HS.out, HO.out, HC.out]; exact br_open hlt
        go_wp2
        go_quiet (fail)
        go_wp2
        go_ret2
        exact ⟨by rw [E.out]; rfl, G2.out.drewN _⟩
      · have t1' : (r == o) = false := by simpa using t1
        by_cases t2 : r = c
        · subst t2
          have E : Hid (S = (2, o)) := by show S = _; rw [HS.out, HO.out, HC.out]; exact br_close hlt
          go_wp2
          go_quiet (fail)
          go_wp2
          go_ret2
          exact ⟨by rw [E.out]; rfl, G2.out.drewN _⟩
        · have t2' : (r == c) = false := by simpa using t2
          have R2 : Hid (BrRound r w (k + 1) W) := ⟨G2.out, fun i hi => by
            by_cases h : i < k
            · exact N1.out i h
            · obtain rfl : i = k := by omega
              rw [← HO.out, ← HC.out]; exact ⟨t1, t2⟩⟩
          go_wp2
          go_roundg (8 - k)
          case measure => omega
          case rel => exact ⟨k + 1, by go_num, by omega, by omega, R2⟩
    · have hltz : ¬ (k : Int) < 8 := by omega
      have E : Hid (S = (0, 0)) := by show S = _; rw [HS.out]; exact br_none fun i hi => R1.out.2 i (by omega)
      have G1 := hide R1.out.1
      clear R1
      go_wp2
      go_ret2
      exact ⟨by rw [E.out]; rfl, G1.out⟩
end Go.Proofs.Ytdkmjhbkjhikfaa
