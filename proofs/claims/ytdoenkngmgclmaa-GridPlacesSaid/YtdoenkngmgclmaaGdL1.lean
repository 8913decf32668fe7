/- What the law GridPlaces runs, where Place, its reference and Tracks answer as the chapter asks; no other condition. -/
import Derived.Test.YtdoenkngmgclmaaGdAw
import Derived.Test.YtdoenkngmgclmaaBitM2
import Derived.Deep.Cut
import Derived.Deep.CutRange
import Derived.Deep.CutBlock
import Derived.BigQuiet
namespace Go.Proofs.Ytdoenkngmgclmaa
open Go.RowKit Go.Sort
set_option linter.unusedVariables false
set_option linter.unusedSimpArgs false

theorem pl_le (cols : Int) (n : Nat) : plN cols n ≤ n := by unfold plN; split <;> omega
set_option maxRecDepth 100000 in
set_option maxHeartbeats 8000000 in
theorem gpl_core (hT : KTr 16) (hP : KPl 9) (hQ : KPl 10) (cols : Int) (p : Option Addr) (n c : Nat) (f : Nat → Int) (W : World) (H : Reads W p n f) (hn : n ≤ 9223372036854775807) :
    Calls Try.prog 3 #[.int .i64 cols, .slice p n c] W fun e w' => e = .returned (.bool true) ∧ Below W.heap.size W w' := by
  by_cases h1 : 120 < n
  · clear hT hP hQ H
    have hz : (120 : Int) < (n : Int) := by omega
    go_enter Try.func3, Try.ntmps3
    go_wp2_with fail
    go_ret
    exact ⟨rfl, Below.refl _ _⟩
  have hz : ¬ (120 : Int) < (n : Int) := by omega
  have A := hide (fun w' => gawake_any hT hP w')
  have K1 := hide (fun (cols : Int) (w' : World) (h : Below W.heap.size W w') => hP cols p n c f w' (H.below h) (by omega))
  have K2 := hide (fun (cols : Int) (w' : World) (h : Below W.heap.size W w') => hQ cols p n c f w' (H.below h) (by omega))
  clear hT hP hQ H
  go_enter Try.func3, Try.ntmps3
  go_wp2_with fail
  obtain ⟨wo0, hwo0⟩ : ∃ wo0 : World, wo0 = W := ⟨_, rfl⟩
  have P0 : Hid (Below W.heap.size W wo0) := by rw [hwo0]; exact Below.refl _ _
  rw [← hwo0]
  clear hwo0
  refine wp_loop_rounds 3 ?_
  rw [rounds_succ]
  have KA0 := hide (K1.out (cols) wo0 P0.out)
  have hm0 : plN (cols) n ≤ n := pl_le (cols) n
  have KB0 := hide (fun w' (h : Below wo0.heap.size wo0 w') => K2.out (cols) w' (P0.out.trans (h.mono P0.out.size)))
  generalize hpl0 : plN (cols) n = m at *
  replace hpl0 := hide hpl0
  go_wp2_with fail
  refine KA0.out.mono ?_
  rintro e w1 ⟨q1, d1, rfl, R1, B1⟩
  have KC := hide (KB0.out w1 B1)
  have B2 : Hid (Below W.heap.size W w1) := P0.out.trans (B1.mono P0.out.size)
  have R1 := hide R1
  clear KA0 KB0 B1 P0
  go_wp2_with fail
  refine KC.out.mono ?_
  rintro e w2 ⟨q2, d2, rfl, R2, h⟩
  have B3 : Hid (Below W.heap.size W w2) := B2.out.trans (h.mono B2.out.size)
  have R3 := hide (R1.out.below h)
  have R2 := hide R2
  clear KC R1 B2 h
  go_wp2_with fail
  go_loopg [8] (m + 1) (fun g2 vk wr => ∃ i : Nat, vk = .int .i64 (i : Int) ∧ i ≤ m ∧ m - i < g2 ∧ Hid (Below W.heap.size W wr) ∧ Hid (SRow wr q1 m 3 (arV (cols) f)) ∧ Hid (SRow wr q2 m 3 (arV (cols) f)))
  case atStart => exact ⟨0, by go_num, by omega, by omega, B3, R3, R2⟩
  case round =>
    clear B3 R3 R2
    obtain ⟨wi, rfl⟩ : ∃ wi : World, wi = wr := ⟨_, rfl⟩
    obtain ⟨i, rfl, hi, hg2, B, Ra, Rb⟩ := hrel
    by_cases him : i < m
    · have himz : (i : Int) < (m : Int) := by omega
      have m4 : Hid (m - (i + 1) < m - i) := Nat.sub_lt_sub_left him (Nat.lt_succ_self i)
      obtain ⟨b1, o1, rfl, l1, r1⟩ := Ra.out (by omega)
      obtain ⟨b2, o2, rfl, l2, r2⟩ := Rb.out (by omega)
      have c0 : wi.cell? ⟨b1, o1 + i * 3, none⟩ = some (.int .i64 (arR (cols) f i)) := r1 i him 0 (by decide)
      have c1 : wi.cell? ⟨b1, o1 + i * 3 + 1, none⟩ = some (.int .i64 (arC (cols) f i)) := r1 i him 1 (by decide)
      have c3 : wi.cell? ⟨b1, o1 + i * 3 + 2, none⟩ = some (.int .i64 (spG (cols) f i)) := r1 i him 2 (by decide)
      have c4 : wi.cell? ⟨b2, o2 + i * 3, none⟩ = some (.int .i64 (arR (cols) f i)) := r2 i him 0 (by decide)
      have c5 : wi.cell? ⟨b2, o2 + i * 3 + 1, none⟩ = some (.int .i64 (arC (cols) f i)) := r2 i him 1 (by decide)
      have c6 : wi.cell? ⟨b2, o2 + i * 3 + 2, none⟩ = some (.int .i64 (spG (cols) f i)) := r2 i him 2 (by decide)
      have NB : Hid (∀ q, Hid (Below W.heap.size W (wi.drewN q))) := fun q => ⟨B.out.os, B.out.tape, B.out.output, B.out.size, B.out.block⟩
      have NA : Hid (∀ q, Hid (SRow (wi.drewN q) (some ⟨b1, o1, none⟩) m 3 (arV (cols) f))) := fun q => Ra.out
      have NC : Hid (∀ q, Hid (SRow (wi.drewN q) (some ⟨b2, o2, none⟩) m 3 (arV (cols) f))) := fun q => Rb.out
      clear r1 r2 B Ra Rb
      generalize arR (cols) f i = x0 at *
      generalize arC (cols) f i = x1 at *
      generalize spG (cols) f i = x2 at *
      go_wp2_with fail
      go_quiet (fail)
      have NB := NB.out nq
      have NA := NA.out nq
      have NC := NC.out nq
      clear c0 c1 c3 c4 c5 c6
      generalize wi.drewN nq = w5 at *
      go_wp2_with fail
      go_roundg (m - i)
      case measure => exact hg2
      case rel => exact ⟨i + 1, by go_num, him, m4.out, NB, NA, NC⟩
    · have himz : ¬ (i : Int) < (m : Int) := by omega
      clear Ra Rb
      obtain ⟨wo1, rfl⟩ : ∃ wo1 : World, wo1 = wi := ⟨_, rfl⟩
      have P1 := B
      clear B hg2 hi him hm0 hpl0
      have v1 : IntKind.i64.wrap (1 + cols % 8) = 1 + cols % 8 := wr (by omega) (by omega)
      go_wp2_with fail
      rw [rounds_succ]
      have KA1 := hide (K1.out (1 + cols % 8) wo1 P1.out)
      have hm1 : plN (1 + cols % 8) n ≤ n := pl_le (1 + cols % 8) n
      have KB1 := hide (fun w' (h : Below wo1.heap.size wo1 w') => K2.out (1 + cols % 8) w' (P1.out.trans (h.mono P1.out.size)))
      generalize hpl1 : plN (1 + cols % 8) n = m at *
      replace hpl1 := hide hpl1
      go_wp2_with fail
      refine KA1.out.mono ?_
      rintro e w1 ⟨q1, d1, rfl, R1, B1⟩
      have KC := hide (KB1.out w1 B1)
      have B2 : Hid (Below W.heap.size W w1) := P1.out.trans (B1.mono P1.out.size)
      have R1 := hide R1
      clear KA1 KB1 B1 P1
      go_wp2_with fail
      refine KC.out.mono ?_
      rintro e w2 ⟨q2, d2, rfl, R2, h⟩
      have B3 : Hid (Below W.heap.size W w2) := B2.out.trans (h.mono B2.out.size)
      have R3 := hide (R1.out.below h)
      have R2 := hide R2
      clear KC R1 B2 h
      go_wp2_with fail
      go_loopg [8] (m + 1) (fun g2 vk wr => ∃ i : Nat, vk = .int .i64 (i : Int) ∧ i ≤ m ∧ m - i < g2 ∧ Hid (Below W.heap.size W wr) ∧ Hid (SRow wr q1 m 3 (arV (1 + cols % 8) f)) ∧ Hid (SRow wr q2 m 3 (arV (1 + cols % 8) f)))
      case atStart => exact ⟨0, by go_num, by omega, by omega, B3, R3, R2⟩
      case round =>
        clear B3 R3 R2
        obtain ⟨wi, rfl⟩ : ∃ wi : World, wi = wr := ⟨_, rfl⟩
        obtain ⟨i, rfl, hi, hg2, B, Ra, Rb⟩ := hrel
        by_cases him : i < m
        · have himz : (i : Int) < (m : Int) := by omega
          have m4 : Hid (m - (i + 1) < m - i) := Nat.sub_lt_sub_left him (Nat.lt_succ_self i)
          obtain ⟨b1, o1, rfl, l1, r1⟩ := Ra.out (by omega)
          obtain ⟨b2, o2, rfl, l2, r2⟩ := Rb.out (by omega)
          have c0 : wi.cell? ⟨b1, o1 + i * 3, none⟩ = some (.int .i64 (arR (1 + cols % 8) f i)) := r1 i him 0 (by decide)
          have c1 : wi.cell? ⟨b1, o1 + i * 3 + 1, none⟩ = some (.int .i64 (arC (1 + cols % 8) f i)) := r1 i him 1 (by decide)
          have c3 : wi.cell? ⟨b1, o1 + i * 3 + 2, none⟩ = some (.int .i64 (spG (1 + cols % 8) f i)) := r1 i him 2 (by decide)
          have c4 : wi.cell? ⟨b2, o2 + i * 3, none⟩ = some (.int .i64 (arR (1 + cols % 8) f i)) := r2 i him 0 (by decide)
          have c5 : wi.cell? ⟨b2, o2 + i * 3 + 1, none⟩ = some (.int .i64 (arC (1 + cols % 8) f i)) := r2 i him 1 (by decide)
          have c6 : wi.cell? ⟨b2, o2 + i * 3 + 2, none⟩ = some (.int .i64 (spG (1 + cols % 8) f i)) := r2 i him 2 (by decide)
          have NB : Hid (∀ q, Hid (Below W.heap.size W (wi.drewN q))) := fun q => ⟨B.out.os, B.out.tape, B.out.output, B.out.size, B.out.block⟩
          have NA : Hid (∀ q, Hid (SRow (wi.drewN q) (some ⟨b1, o1, none⟩) m 3 (arV (1 + cols % 8) f))) := fun q => Ra.out
          have NC : Hid (∀ q, Hid (SRow (wi.drewN q) (some ⟨b2, o2, none⟩) m 3 (arV (1 + cols % 8) f))) := fun q => Rb.out
          clear r1 r2 B Ra Rb
          generalize arR (1 + cols % 8) f i = x0 at *
          generalize arC (1 + cols % 8) f i = x1 at *
          generalize spG (1 + cols % 8) f i = x2 at *
          go_wp2_with fail
          go_quiet (fail)
          have NB := NB.out nq
          have NA := NA.out nq
          have NC := NC.out nq
          clear c0 c1 c3 c4 c5 c6
          generalize wi.drewN nq = w5 at *
          go_wp2_with fail
          go_roundg (m - i)
          case measure => exact hg2
          case rel => exact ⟨i + 1, by go_num, him, m4.out, NB, NA, NC⟩
        · have himz : ¬ (i : Int) < (m : Int) := by omega
          clear Ra Rb
          clear hg2 hi him
          go_wp2_with fail
          rw [rounds_succ]
          go_wp2_with fail
          refine (A.out wi).mono ?_
          rintro e wz ⟨rfl, h⟩
          have BZ : Hid (Below W.heap.size W wz) := B.out.trans (h.mono B.out.size)
          clear h B
          go_wp2_with fail
          go_ret
          exact ⟨rfl, BZ.out⟩
end Go.Proofs.Ytdoenkngmgclmaa
