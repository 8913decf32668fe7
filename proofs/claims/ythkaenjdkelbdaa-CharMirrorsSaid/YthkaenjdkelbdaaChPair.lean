/- What the reference's Bracket and Mirror return for every rune; no condition but that the argument is a rune's number. -/
import Derived.Test.YthkaenjdkelbdaaChMir
import Derived.Deep.LoopGhost
import Derived.Deep.Cut
import Derived.Deep.QuietTactic
import Derived.BigQuiet
namespace Go.Proofs.Ythkaenjdkelbdaa
open Go.RowKit Go.Sort Go.Great
set_option linter.unusedSimpArgs false
set_option linter.unusedVariables false

def pairsL : List Value := [.int .i32 40, .int .i32 41, .int .i32 60, .int .i32 62, .int .i32 91, .int .i32 93, .int .i32 123, .int .i32 125, .int .i32 171, .int .i32 187, .int .i32 8804, .int .i32 8805,
  .int .i32 12296, .int .i32 12297, .int .i32 12298, .int .i32 12299, .int .i32 12300, .int .i32 12301, .int .i32 12302, .int .i32 12303, .int .i32 12304, .int .i32 12305]
def po (k : Nat) : Int := [40, 60, 91, 123, 171, 8804, 12296, 12298, 12300, 12302, 12304].getD k 0
def pc (k : Nat) : Int := [41, 62, 93, 125, 187, 8805, 12297, 12299, 12301, 12303, 12305].getD k 0
theorem k11 {k : Nat} (h : k < 11) : k = 0 ∨ k = 1 ∨ k = 2 ∨ k = 3 ∨ k = 4 ∨ k = 5 ∨ k = 6 ∨ k = 7 ∨ k = 8 ∨ k = 9 ∨ k = 10 := by omega
theorem po_at {k : Nat} (h : k < 11) : pairsL[2 * k]? = some (.int .i32 (po k)) ∧ pairsL[2 * k + 1]? = some (.int .i32 (pc k)) := by
  rcases k11 h with rfl | rfl | rfl | rfl | rfl | rfl | rfl | rfl | rfl | rfl | rfl <;> exact ⟨rfl, rfl⟩
theorem po_bounds {k : Nat} (h : k < 11) : 0 ≤ po k ∧ po k ≤ 20000 ∧ 0 ≤ pc k ∧ pc k ≤ 20000 := by
  rcases k11 h with rfl | rfl | rfl | rfl | rfl | rfl | rfl | rfl | rfl | rfl | rfl <;> decide
def skips (k : Nat) : Bool := k == 1 || k == 4 || k == 5
theorem skip_iff {k : Nat} (h : k < 11) : skips k = (po k == 60 || po k == 171 || po k == 8804) := by
  rcases k11 h with rfl | rfl | rfl | rfl | rfl | rfl | rfl | rfl | rfl | rfl | rfl <;> decide
theorem pr_open {k : Nat} (h : k < 11) : miS (po k) = pc k ∧ (skips k = false → brS (po k) = (1, pc k)) := by
  rcases k11 h with rfl | rfl | rfl | rfl | rfl | rfl | rfl | rfl | rfl | rfl | rfl <;> decide
theorem pr_close {k : Nat} (h : k < 11) : miS (pc k) = po k ∧ (skips k = false → brS (pc k) = (2, po k)) := by
  rcases k11 h with rfl | rfl | rfl | rfl | rfl | rfl | rfl | rfl | rfl | rfl | rfl <;> decide
theorem pr_none {r : Int} (h : ∀ k, k < 11 → skips k = false → r ≠ po k ∧ r ≠ pc k) : brS r = (0, 0) := by
  apply br_none
  intro k hk
  have e : ∃ j, j < 11 ∧ skips j = false ∧ bo k = po j ∧ bc k = pc j := by
    rcases k8 hk with rfl | rfl | rfl | rfl | rfl | rfl | rfl | rfl
    · exact ⟨0, by decide⟩
    · exact ⟨2, by decide⟩
    · exact ⟨3, by decide⟩
    · exact ⟨6, by decide⟩
    · exact ⟨7, by decide⟩
    · exact ⟨8, by decide⟩
    · exact ⟨9, by decide⟩
    · exact ⟨10, by decide⟩
  obtain ⟨j, h1, h2, h3, h4⟩ := e
  rw [h3, h4]
  exact h j h1 h2
theorem pm_none {r : Int} (h : ∀ k, k < 11 → r ≠ po k ∧ r ≠ pc k) : miS r = r := by
  have h0 : brS r = (0, 0) := pr_none fun k hk _ => h k hk
  have h1 := h 1 (by omega)
  have h4 := h 4 (by omega)
  have h5 := h 5 (by omega)
  simp only [po, pc, List.getD_cons_zero, List.getD_cons_succ] at h1 h4 h5
  simp only [miS, h0, if_true]
  simp only [h1, h4, h5, if_false]

set_option maxHeartbeats 1000000 in
theorem pairs_any (w : World) : Calls Try.prog 24 #[] w fun e w' => ∃ b, e = .returned (.slice (some ⟨b, 0, none⟩) 22 22) ∧ w.heap.size ≤ b ∧ Blk w' b 21 pairsL ∧ Grew w w' := by
  go_enter Try.func24, Try.ntmps24
  go_wp2
  go_ret
  exact ⟨w.heap.size, rfl, Nat.le_refl _, Blk.new rfl, (Grew.refl w).alloc _⟩

def PrRound (r : Int) (b : Nat) (w : World) (k : Nat) (wr : World) : Prop := Grew w wr ∧ Blk wr b 21 pairsL ∧ ∀ i, i < k → r ≠ po i ∧ r ≠ pc i
set_option maxHeartbeats 1000000 in
theorem rMirror_any (r : Int) (w : World) (hr : -2147483648 ≤ r ∧ r ≤ 2147483647) : Calls Try.prog 20 #[.int .i32 r] w fun e w' => e = .returned (.int .i32 (miS r)) ∧ Grew w w' := by
  have C := hide (pairs_any w)
  obtain ⟨r1, r2⟩ := hr
  obtain ⟨m, hm⟩ : ∃ m, m = miS r := ⟨_, rfl⟩
  have HM := hide hm
  rw [← hm]
  clear hm
  go_enter Try.func20, Try.ntmps20
  go_wp2_with fail
  refine C.out.mono ?_
  rintro e w1 ⟨b, rfl, hb, hB, G1⟩
  have R0 : Hid (PrRound r b w 0 w1) := ⟨G1, hB, fun i hi => absurd hi (by omega)⟩
  clear G1 C hB
  go_wp2
  go_loopg [4] 12 (fun g v wr => ∃ k j : Nat, v = .int .i64 j ∧ j = 2 * k ∧ k ≤ 11 ∧ 11 - k < g ∧ Hid (PrRound r b w k wr))
  case atStart => exact ⟨0, 0, by go_num, rfl, by omega, by omega, R0⟩
  case round =>
    clear R0
    obtain ⟨wo, rfl⟩ : ∃ wo : World, wo = wr := ⟨_, rfl⟩
    obtain ⟨k, j, rfl, hj, hk, hg, R1⟩ := hrel
    by_cases hlt : k < 11
    · have hltz : (j : Int) < 22 := by omega
      have hlt1 : (j : Int) + 1 < 22 := by omega
      have cO := R1.out.2.1.cell j (by rw [hj]; exact (po_at hlt).1)
      have cC := R1.out.2.1.cell (j + 1) (by rw [hj]; exact (po_at hlt).2)
      obtain ⟨b1, b2, b3, b4⟩ := po_bounds hlt
      have G1 := hide R1.out.1
      have B1 := hide R1.out.2.1
      have N1 := hide R1.out.2.2
      obtain ⟨o, ho⟩ : ∃ o, o = po k := ⟨_, rfl⟩
      obtain ⟨c, hc⟩ : ∃ c, c = pc k := ⟨_, rfl⟩
      rw [← ho] at cO b1 b2
      rw [← hc] at cC b3 b4
      have HO := hide ho
      have HC := hide hc
      have HJ := hide hj
      clear ho hc R1 hj
      have hjn : ((j : Int) + 1).toNat = j + 1 := by omega
      have hjw : IntKind.i64.wrap ((j : Int) + 1) = (j : Int) + 1 := by rw [IntKind.wrap_i64]; omega
      by_cases t1 : o = r
      · subst t1
        have E : Hid (m = c) := by show m = _; rw [HM.out, HO.out, HC.out]; exact (pr_open hlt).1
        go_wp2
        go_ret
        exact ⟨ret_int E.out.symm, G1.out⟩
      · by_cases t2 : c = r
        · subst t2
          have E : Hid (m = o) := by show m = _; rw [HM.out, HO.out, HC.out]; exact (pr_close hlt).1
          have t1' : (o == c) = false := by simpa using t1
          go_wp2
          go_ret
          exact ⟨ret_int E.out.symm, G1.out⟩
        · have t1' : (o == r) = false := by simpa using t1
          have t2' : (c == r) = false := by simpa using t2
          have R2 : Hid (PrRound r b w (k + 1) wo) := ⟨G1.out, B1.out, fun i hi => by
            by_cases h : i < k
            · exact N1.out i h
            · obtain rfl : i = k := by omega
              rw [← HO.out, ← HC.out]; exact ⟨fun h => t1 h.symm, fun h => t2 h.symm⟩⟩
          go_wp2
          go_roundg (11 - k)
          case measure => omega
          case rel => exact ⟨k + 1, j + 2, by go_num, by have := HJ.out; omega, by omega, by omega, R2⟩
    · have hltz : ¬ (j : Int) < 22 := by omega
      have E : Hid (m = r) := by show m = _; rw [HM.out]; exact pm_none fun i hi => R1.out.2.2 i (by omega)
      have G1 := hide R1.out.1
      clear R1 hj
      go_wp2
      go_ret
      exact ⟨ret_int E.out.symm, G1.out⟩

theorem or3 : ∀ {a b c : Bool}, false = (a || b || c) → a = false ∧ b = false ∧ c = false := by decide
def PsRound (r : Int) (b : Nat) (w : World) (k : Nat) (wr : World) : Prop := Grew w wr ∧ Blk wr b 21 pairsL ∧ ∀ i, i < k → skips i = false → r ≠ po i ∧ r ≠ pc i
set_option maxHeartbeats 2000000 in
theorem rBracket_any (r : Int) (w : World) (hr : -2147483648 ≤ r ∧ r ≤ 2147483647) : Calls Try.prog 19 #[.int .i32 r] w fun e w' => e = .returned (.tuple #[.int .i64 (brS r).1, .int .i32 (brS r).2]) ∧ Grew w w' := by
  have C := hide (pairs_any w)
  obtain ⟨r1, r2⟩ := hr
  obtain ⟨S, hS⟩ : ∃ S, S = brS r := ⟨_, rfl⟩
  have HS := hide hS
  rw [← hS]
  clear hS
  go_enter Try.func19, Try.ntmps19
  go_wp2_with fail
  refine C.out.mono ?_
  rintro e w1 ⟨b, rfl, hb, hB, G1⟩
  have R0 : Hid (PsRound r b w 0 w1) := ⟨G1, hB, fun i hi => absurd hi (by omega)⟩
  clear G1 C hB
  go_wp2
  go_loopg [5] 12 (fun g v wr => ∃ k j : Nat, v = .int .i64 j ∧ j = 2 * k ∧ k ≤ 11 ∧ 11 - k < g ∧ Hid (PsRound r b w k wr))
  case atStart => exact ⟨0, 0, by go_num, rfl, by omega, by omega, R0⟩
  case round =>
    clear R0
    obtain ⟨wo, rfl⟩ : ∃ wo : World, wo = wr := ⟨_, rfl⟩
    obtain ⟨k, j, rfl, hj, hk, hg, R1⟩ := hrel
    by_cases hlt : k < 11
    · have hltz : (j : Int) < 22 := by omega
      have hlt1 : (j : Int) + 1 < 22 := by omega
      have cO := R1.out.2.1.cell j (by rw [hj]; exact (po_at hlt).1)
      have cC := R1.out.2.1.cell (j + 1) (by rw [hj]; exact (po_at hlt).2)
      obtain ⟨b1, b2, b3, b4⟩ := po_bounds hlt
      have G1 := hide R1.out.1
      have B1 := hide R1.out.2.1
      have N1 := hide R1.out.2.2
      obtain ⟨o, ho⟩ : ∃ o, o = po k := ⟨_, rfl⟩
      obtain ⟨c, hc⟩ : ∃ c, c = pc k := ⟨_, rfl⟩
      rw [← ho] at cO b1 b2
      rw [← hc] at cC b3 b4
      have HO := hide ho
      have HC := hide hc
      have HJ := hide hj
      clear ho hc R1 hj
      have hjn : ((j : Int) + 1).toNat = j + 1 := by omega
      have hjw : IntKind.i64.wrap ((j : Int) + 1) = (j : Int) + 1 := by rw [IntKind.wrap_i64]; omega
      have hsk := skip_iff hlt
      rw [← HO.out] at hsk
      cases hs : skips k
      · rw [hs] at hsk
        have HS0 := hide hs
        obtain ⟨u1, u2, u3⟩ := or3 hsk
        clear hsk hs
        by_cases t1 : o = r
        · subst t1
          have E : Hid (S = (1, c)) := by show S = _; rw [HS.out, HO.out, HC.out]; exact (pr_open hlt).2 HS0.out
          go_wp2
          go_quiet (fail)
          go_wp2
          go_ret2
          exact ⟨by rw [E.out]; rfl, G1.out.drewN _⟩
        · have t1' : (o == r) = false := by simpa using t1
          by_cases t2 : c = r
          · subst t2
            have E : Hid (S = (2, o)) := by show S = _; rw [HS.out, HO.out, HC.out]; exact (pr_close hlt).2 HS0.out
            go_wp2
            go_quiet (fail)
            go_wp2
            go_ret2
            exact ⟨by rw [E.out]; rfl, G1.out.drewN _⟩
          · have t2' : (c == r) = false := by simpa using t2
            have R2 : Hid (PsRound r b w (k + 1) wo) := ⟨G1.out, B1.out, fun i hi hsi => by
              by_cases h : i < k
              · exact N1.out i h hsi
              · obtain rfl : i = k := by omega
                rw [← HO.out, ← HC.out]; exact ⟨fun h => t1 h.symm, fun h => t2 h.symm⟩⟩
            go_wp2
            go_roundg (11 - k)
            case measure => omega
            case rel => exact ⟨k + 1, j + 2, by go_num, by have := HJ.out; omega, by omega, by omega, R2⟩
      · rw [hs] at hsk
        have R2 : Hid (PsRound r b w (k + 1) wo) := ⟨G1.out, B1.out, fun i hi hsi => by
          by_cases h : i < k
          · exact N1.out i h hsi
          · obtain rfl : i = k := by omega
            rw [hs] at hsi; cases hsi⟩
        have ho : o = 60 ∨ o = 171 ∨ o = 8804 := by
          have := hsk.symm
          simp only [Bool.or_eq_true, beq_iff_eq] at this
          omega
        clear hsk hs N1
        rcases ho with rfl | rfl | rfl
        all_goals
          go_wp2
          go_roundg (11 - k)
          case measure => omega
          case rel => exact ⟨k + 1, j + 2, by go_num, by have := HJ.out; omega, by omega, by omega, R2⟩
    · have hltz : ¬ (j : Int) < 22 := by omega
      have E : Hid (S = (0, 0)) := by show S = _; rw [HS.out]; exact pr_none fun i hi hsi => R1.out.2.2 i (by omega) hsi
      have G1 := hide R1.out.1
      clear R1 hj
      go_wp2
      go_ret2
      exact ⟨by rw [E.out]; rfl, G1.out⟩
end Go.Proofs.Ythkaenjdkelbdaa
