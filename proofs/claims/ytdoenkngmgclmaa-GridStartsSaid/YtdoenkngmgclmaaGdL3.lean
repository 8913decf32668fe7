/- What the law GridStarts runs, where Starts, Place and Tracks answer as the chapter asks; no other condition. -/
import Derived.Test.YtdoenkngmgclmaaGdAw
import Derived.Test.YtdoenkngmgclmaaBitM2
import Derived.BigQuiet
namespace Go.Proofs.Ytdoenkngmgclmaa
open Go.RowKit Go.Sort
set_option linter.unusedVariables false
set_option linter.unusedSimpArgs false

set_option maxRecDepth 100000 in
set_option maxHeartbeats 20000000 in
theorem gst_core (hT : KTr 16) (hP : KPl 9) (hS : KSt 19) (gap : Int) (p : Option Addr) (n c : Nat) (f : Nat → Int) (W : World) (H : Reads W p n f) (hn : n ≤ 9223372036854775807) :
    Calls Try.prog 8 #[.int .i64 gap, .slice p n c] W fun e w' => e = .returned (.bool true) ∧ Below W.heap.size W w' := by
  by_cases h1 : 50 < n
  · clear hT hP hS H
    have hz : (50 : Int) < (n : Int) := by omega
    go_enter Try.func8, Try.ntmps8
    go_wp2_with fail
    go_ret
    exact ⟨rfl, Below.refl _ _⟩
  have hz : ¬ (50 : Int) < (n : Int) := by omega
  have A := hide (fun w' => gawake_any hT hP w')
  have K1 := hide (fun (w' : World) (h : Reads w' (some ⟨W.heap.size, 0, none⟩) n (fun j => f j % 1024)) => hS (gap % 64) (some ⟨W.heap.size, 0, none⟩) n n (fun j => f j % 1024) w' h (by omega) (by omega) (fun i hi => by omega))
  have SB := hide (fun i (hi : i ≤ n) => stF_bd (gap := gap % 64) (f := fun j => f j % 1024) (by omega) (n := i) (fun j hj => by omega))
  have hg64 : 0 ≤ gap % 64 ∧ gap % 64 < 64 := by omega
  have H := hide H
  clear hT hP hS
  have hmk : ∀ W' : World, (Instr.makeSlice 22 (.int .i64 (n : Int)) (.int .i64 (n : Int))).run Try.prog W' = .ok (.slice (some ⟨W'.heap.size, 0, none⟩) n n) (W'.alloc (.cells (ints n (fun _ => 0)) 3)) := make_ints n (by omega)
  have B2 : Hid (Below W.heap.size W (W.alloc (.cells (ints n fun _ => 0) 3))) := (Below.refl _ _).alloc (Nat.le_refl _) _
  have R2 : Hid (IRow (W.alloc (.cells (ints n fun _ => 0) 3)) W.heap.size n (fun j => if j < 0 then f j % 1024 else 0)) := IRow.new W n _
  go_enter Try.func8, Try.ntmps8
  go_wp2_with fail
  clear hmk
  generalize W.alloc (.cells (ints n fun _ => 0) 3) = w2 at *
  go_loopg [6] (n + 1) (fun g1 vk wr => ∃ k : Nat, vk = .int .i64 (k : Int) ∧ k ≤ n ∧ n - k < g1 ∧ Hid (Below W.heap.size W wr) ∧ Hid (IRow wr W.heap.size n (fun j => if j < k then f j % 1024 else 0)))
  case atStart => exact ⟨0, by go_num, by omega, by omega, B2, R2⟩
  case round =>
    clear B2 R2
    obtain ⟨wo, rfl⟩ : ∃ wo : World, wo = wr := ⟨_, rfl⟩
    obtain ⟨k, rfl, hk, hg, B, R⟩ := hrel
    by_cases hlt : k < n
    · have hltz : (k : Int) < (n : Int) := by omega
      obtain ⟨b, off, rfl, hb⟩ := (H.out.below B.out) (by omega)
      have c1 : wo.cell? ⟨b, off + k, none⟩ = some (.int .i64 (f k)) := hb k hlt
      have fz : wo.frozen? ⟨W.heap.size, k, none⟩ = false := R.out.frozen k
      have fc : wo.cell? ⟨W.heap.size, k, none⟩ = some (.int .i64 0) := by have q := R.out.cell hlt; simp at q; exact q
      have NB : Hid (Below W.heap.size W (wo.setCell ⟨W.heap.size, k, none⟩ (.int .i64 (f k % 1024)))) := B.out.setCell (Nat.le_refl _) _
      have NR : Hid (IRow (wo.setCell ⟨W.heap.size, k, none⟩ (.int .i64 (f k % 1024))) W.heap.size n (fun j => if j < k + 1 then f j % 1024 else 0)) := by
        refine (R.out.set_ k _).congr fun j hj => ?_
        by_cases h1 : j = k
        · subst h1; simp
        · by_cases h2 : j < k
          · simp [h1, h2, show j < k + 1 by omega]
          · simp [h1, h2, show ¬ j < k + 1 by omega]
      clear hb R B
      go_wp2_with fail
      generalize wo.setCell ⟨W.heap.size, k, none⟩ (.int .i64 (f k % 1024)) = w3 at *
      go_roundg (n - k)
      case measure => omega
      case rel => exact ⟨k + 1, by go_num, by omega, by omega, NB, NR⟩
    · have hltz : ¬ (k : Int) < (n : Int) := by omega
      obtain rfl : n = k := by omega
      have R3 : IRow wo W.heap.size n (fun j => f j % 1024) := R.out.congr fun j hj => by simp [hj]
      have R5 : Hid (Reads wo (some ⟨W.heap.size, 0, none⟩) n (fun j => f j % 1024)) := R3.reads
      clear R R3 hk hg hlt
      go_wp2_with fail
      refine (K1.out wo R5.out).mono ?_
      rintro e w4 ⟨q1, d1, rfl, Ra, h⟩
      have B4 : Hid (Below W.heap.size W w4) := B.out.trans (h.mono B.out.size)
      have R6 : Hid (Reads w4 (some ⟨W.heap.size, 0, none⟩) n (fun j => f j % 1024)) := R5.out.below h
      replace Ra := hide Ra
      clear h B R5 K1
      rcases Nat.eq_zero_or_pos n with hn0 | hn0
      · subst hn0
        clear Ra R6
        go_wp2_with fail
        refine wp_loop_rounds 1 ?_
        rw [rounds_succ]
        go_wp2_with fail
        refine (A.out w4).mono ?_
        rintro e wz ⟨rfl, h⟩
        have BZ : Hid (Below W.heap.size W wz) := B4.out.trans (h.mono B4.out.size)
        clear h B4
        go_wp2_with fail
        go_ret
        exact ⟨rfl, BZ.out⟩
      · obtain ⟨m, rfl⟩ : ∃ m, n = m + 1 := ⟨n - 1, by omega⟩
        obtain ⟨b1, o1, rfl, r1⟩ := Ra.out (by omega)
        have c0 : w4.cell? ⟨b1, o1, none⟩ = some (.int .i64 0) := r1 0 (by omega)
        have hm2 : (0 : Int) < (m : Int) + 1 := by omega
        have dm2 : decide ((0 : Int) < (m : Int) + 1) = true := decide_eq_true hm2
        clear r1
        generalize hgp : gap % 64 = gap' at *
        go_wp2_with fail
        go_loopg [8] (m + 1 + 1) (fun g1 vk wr => ∃ k : Nat, vk = .int .i64 ((k : Int) + 1) ∧ k ≤ m ∧ m - k < g1 ∧ Hid (Below W.heap.size W wr) ∧ Hid (Reads wr (some ⟨W.heap.size, 0, none⟩) (m + 1) (fun j => f j % 1024)) ∧ Hid (Reads wr (some ⟨b1, o1, none⟩) (m + 1) (stF gap' (fun j => f j % 1024))))
        case atStart => exact ⟨0, by go_num, by omega, by omega, B4, R6, Ra⟩
        case round =>
          clear B4 R6 Ra c0
          obtain ⟨wi, rfl⟩ : ∃ wi : World, wi = wr := ⟨_, rfl⟩
          obtain ⟨k, rfl, hk, hg, B, R, Ra⟩ := hrel
          by_cases hlt : k < m
          · have hltz : (k : Int) + 1 < (m : Int) + 1 := by omega
            have hkm : (k : Int) < (m : Int) + 1 := by omega
            have hk0 : (0 : Int) ≤ (k : Int) := by omega
            have hk1 : (0 : Int) ≤ (k : Int) + 1 := by omega
            have m3 : Hid (m - (k + 1) < m - k) := Nat.sub_lt_sub_left hlt (Nat.lt_succ_self k)
            have wk : IntKind.i64.wrap (k : Int) = (k : Int) := wr (by omega) (by omega)
            have wk2 : IntKind.i64.wrap ((k : Int) + 1 + 1) = (k : Int) + 1 + 1 := wr (by omega) (by omega)
            obtain ⟨b2, o2, e2, r1⟩ := Ra.out (by omega)
            cases e2
            obtain ⟨b3, o3, e3, r3⟩ := R.out (by omega)
            cases e3
            have c0 : wi.cell? ⟨b1, o1 + (k + 1), none⟩ = some (.int .i64 (stF gap' (fun j => f j % 1024) (k + 1))) := r1 (k + 1) (by omega)
            have c1 : wi.cell? ⟨b1, o1 + k, none⟩ = some (.int .i64 (stF gap' (fun j => f j % 1024) k)) := r1 k (by omega)
            have c3 : wi.cell? ⟨W.heap.size, k, none⟩ = some (.int .i64 (f k % 1024)) := by have q := r3 k (by omega); rwa [Nat.zero_add] at q
            have e1 : stF gap' (fun j => f j % 1024) (k + 1) = stF gap' (fun j => f j % 1024) k + f k % 1024 + gap' := by simp only [stF, Int.add_assoc]
            have sb := SB.out k (by omega)
            have fb : 0 ≤ f k % 1024 ∧ f k % 1024 < 1024 := by omega
            have NB : Hid (∀ q, Hid (Below W.heap.size W (wi.drewN q))) := fun q => ⟨B.out.os, B.out.tape, B.out.output, B.out.size, B.out.block⟩
            have NR : Hid (∀ q, Hid (Reads (wi.drewN q) (some ⟨W.heap.size, 0, none⟩) (m + 1) (fun j => f j % 1024))) := fun q => R.out
            have NA : Hid (∀ q, Hid (Reads (wi.drewN q) (some ⟨b1, o1, none⟩) (m + 1) (stF gap' (fun j => f j % 1024)))) := fun q => Ra.out
            rw [e1] at c0
            clear B R Ra r1 r3 e1
            generalize stF gap' (fun j => f j % 1024) k = xa at *
            generalize f k % 1024 = yf at *
            obtain ⟨fk1, fk2⟩ := fb
            obtain ⟨p01, p02⟩ := sb
            obtain ⟨g01, g02⟩ := hg64
            have v1 : IntKind.i64.wrap (xa + yf) = xa + yf := wr (by omega) (by omega)
            have v2 : IntKind.i64.wrap (xa + yf + gap') = xa + yf + gap' := wr (by omega) (by omega)
            go_wp2_with fail
            go_quiet (fail)
            have NB := NB.out nq
            have NR := NR.out nq
            have NA := NA.out nq
            clear c0 c1 c3 v1 v2
            generalize wi.drewN nq = w6 at *
            go_wp2_with fail
            go_roundg (m - k)
            case measure => exact hg
            case rel => exact ⟨k + 1, by go_num, hlt, m3.out, NB, NR, NA⟩
          · have hltz : ¬ (k : Int) + 1 < (m : Int) + 1 := by omega
            clear R Ra
            go_wp2_with fail
            refine (A.out wi).mono ?_
            rintro e wz ⟨rfl, h⟩
            have BZ : Hid (Below W.heap.size W wz) := B.out.trans (h.mono B.out.size)
            clear h B
            go_wp2_with fail
            go_ret
            exact ⟨rfl, BZ.out⟩
end Go.Proofs.Ytdoenkngmgclmaa
