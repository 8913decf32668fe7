/- What the law BoxPlaces runs, where Offsets and Align (and, for the sanity check, Resolve) answer as the chapter asks; no other condition. -/
import Derived.Test.YtjaapdkhjgolfaaBoAx
import Derived.Test.YtjaapdkhjgolfaaBitM
import Derived.Test.YtjaapdkhjgolfaaBitM2
import Derived.BigQuiet
namespace Go.Proofs.Ytjaapdkhjgolfaa
open Go.RowKit Go.Sort
set_option linter.unusedVariables false
set_option linter.unusedSimpArgs false

theorem al_tup (al av sz : Int) (r : Bool) : ∃ a b : Int, alV al av sz r = .tuple #[.int .i64 a, .int .i64 b] := by
  unfold alV
  by_cases h : alOk al av sz
  · exact ⟨_, _, by rw [if_pos h]⟩
  · exact ⟨_, _, by rw [if_neg h]⟩
set_option maxRecDepth 100000 in
set_option maxHeartbeats 20000000 in
theorem plc_core (hR : KRes 11) (hO : KOff 20) (hA : KAlg 22) (ho : KOff 21) (ha : KAlg 23) (av gap ju : Int) (p : Option Addr) (n c : Nat) (f : Nat → Int) (r : Bool) (W : World) (H : Reads W p n f) (hn : n ≤ 9223372036854775807) :
    Calls Try.prog 7 #[.int .i64 av, .int .i64 gap, .int .i64 ju, .slice p n c, .bool r] W fun e w' => e = .returned (.bool true) ∧ Below W.heap.size W w' := by
  by_cases h1 : 120 < n
  · clear hR hO hA ho ha H
    have hz : (120 : Int) < (n : Int) := by omega
    go_enter Try.func7, Try.ntmps7
    go_wp2_with fail
    go_ret
    exact ⟨rfl, Below.refl _ _⟩
  have hz : ¬ (120 : Int) < (n : Int) := by omega
  have A := hide (fun w' => bawake_any hR hO w')
  have K1 := hide (fun (w' : World) (h : Reads w' p n f) => hO av gap ju p n c f r w' h (by omega))
  have K2 := hide (fun (w' : World) (h : Reads w' p n f) => ho av gap ju p n c f r w' h (by omega))
  have K3 := hide (fun (w' : World) (h : Reads w' (some ⟨W.heap.size, 0, none⟩) n (fun j => f j % 128)) => hO (av % 1024) (gap % 16) (ju % 4) (some ⟨W.heap.size, 0, none⟩) n n (fun j => f j % 128) r w' h (by omega))
  have K4 := hide (fun (w' : World) (h : Reads w' (some ⟨W.heap.size, 0, none⟩) n (fun j => f j % 128)) => ho (av % 1024) (gap % 16) (ju % 4) (some ⟨W.heap.size, 0, none⟩) n n (fun j => f j % 128) r w' h (by omega))
  have K5 := hide (fun (w' : World) => hA ju av gap r w')
  have K6 := hide (fun (w' : World) => ha ju av gap r w')
  obtain ⟨aa, ab, ev⟩ := al_tup ju av gap r
  rw [ev] at K5 K6
  have m1 : (if ofB av gap ju n f = true then n else 0) ≤ 1048576 := by split <;> omega
  have m2 : (if ofB (av % 1024) (gap % 16) (ju % 4) n (fun j => f j % 128) = true then n else 0) ≤ 1048576 := by split <;> omega
  generalize (if ofB av gap ju n f = true then n else 0) = l1 at *
  generalize (if ofB (av % 1024) (gap % 16) (ju % 4) n (fun j => f j % 128) = true then n else 0) = l2 at *
  have H := hide H
  clear hR hO hA ho ha ev
  have hmk : ∀ W' : World, (Instr.makeSlice 23 (.int .i64 (n : Int)) (.int .i64 (n : Int))).run Try.prog W' = .ok (.slice (some ⟨W'.heap.size, 0, none⟩) n n) (W'.alloc (.cells (ints n (fun _ => 0)) 3)) := make_ints n (by omega)
  have B2 : Hid (Below W.heap.size W (W.alloc (.cells (ints n fun _ => 0) 3))) := (Below.refl _ _).alloc (Nat.le_refl _) _
  have R2 : Hid (IRow (W.alloc (.cells (ints n fun _ => 0) 3)) W.heap.size n (fun j => if j < 0 then f j % 128 else 0)) := IRow.new W n _
  go_enter Try.func7, Try.ntmps7
  go_wp2_with fail
  clear hmk
  generalize W.alloc (.cells (ints n fun _ => 0) 3) = w2 at *
  go_loopg [12] (n + 1) (fun g1 vk wr => ∃ k : Nat, vk = .int .i64 (k : Int) ∧ k ≤ n ∧ n - k < g1 ∧ Hid (Below W.heap.size W wr) ∧ Hid (IRow wr W.heap.size n (fun j => if j < k then f j % 128 else 0)))
  case atStart => exact ⟨0, by go_num, by omega, by omega, B2, R2⟩
  case round =>
    clear B2 R2
    obtain ⟨wo, rfl⟩ : ∃ wo : World, wo = wr := ⟨_, rfl⟩
    obtain ⟨k, rfl, hk, hg, B, R⟩ := hrel
    by_cases hlt : k < n
    · have hltz : (k : Int) < (n : Int) := by omega
      obtain ⟨b, off, rfl, hb⟩ := (H.out.below B.out) (by omega)
      have c1 : wo.cell? ⟨b, off + k, none⟩ = some (.int .i64 (f k)) := hb k hlt
      have fz : wo.frozen? ⟨W.heap.size, k, none⟩ = false := R.out.frozen k
      have fc : wo.cell? ⟨W.heap.size, k, none⟩ = some (.int .i64 0) := by have q := R.out.cell hlt; simp at q; exact q
      have NB : Hid (Below W.heap.size W (wo.setCell ⟨W.heap.size, k, none⟩ (.int .i64 (f k % 128)))) := B.out.setCell (Nat.le_refl _) _
      have NR : Hid (IRow (wo.setCell ⟨W.heap.size, k, none⟩ (.int .i64 (f k % 128))) W.heap.size n (fun j => if j < k + 1 then f j % 128 else 0)) := by
        refine (R.out.set_ k _).congr fun j hj => ?_
        by_cases h1 : j = k
        · subst h1; simp
        · by_cases h2 : j < k
          · simp [h1, h2, show j < k + 1 by omega]
          · simp [h1, h2, show ¬ j < k + 1 by omega]
      clear hb R B
      go_wp2_with fail
      generalize wo.setCell ⟨W.heap.size, k, none⟩ (.int .i64 (f k % 128)) = w3 at *
      go_roundg (n - k)
      case measure => omega
      case rel => exact ⟨k + 1, by go_num, by omega, by omega, NB, NR⟩
    · have hltz : ¬ (k : Int) < (n : Int) := by omega
      obtain rfl : n = k := by omega
      have R3 : IRow wo W.heap.size n (fun j => f j % 128) := R.out.congr fun j hj => by simp [hj]
      have R5 : Hid (Reads wo (some ⟨W.heap.size, 0, none⟩) n (fun j => f j % 128)) := R3.reads
      clear R R3 hk hg hlt
      have HO := hide (H.out.below B.out)
      go_wp2_with fail
      refine (K1.out wo HO.out).mono ?_
      rintro e w4 ⟨q1, d1, rfl, Ra, h⟩
      have B4 : Hid (Below W.heap.size W w4) := B.out.trans (h.mono B.out.size)
      have R6 : Hid (Reads w4 (some ⟨W.heap.size, 0, none⟩) n (fun j => f j % 128)) := R5.out.below h
      have HO4 := hide (HO.out.below h)
      replace Ra := hide Ra
      clear h B R5 HO K1
      go_wp2_with fail
      refine (K2.out w4 HO4.out).mono ?_
      rintro e w5 ⟨q2, d2, rfl, Rb, h⟩
      have B5 : Hid (Below W.heap.size W w5) := B4.out.trans (h.mono B4.out.size)
      have R7 : Hid (Reads w5 (some ⟨W.heap.size, 0, none⟩) n (fun j => f j % 128)) := R6.out.below h
      have Ra5 := hide (Ra.out.below h)
      replace Rb := hide Rb
      clear h B4 R6 Ra HO4 K2
      go_wp2_with fail
      refine (K3.out w5 R7.out).mono ?_
      rintro e w6 ⟨q3, d3, rfl, Rc, h⟩
      have B6 : Hid (Below W.heap.size W w6) := B5.out.trans (h.mono B5.out.size)
      have R8 : Hid (Reads w6 (some ⟨W.heap.size, 0, none⟩) n (fun j => f j % 128)) := R7.out.below h
      have Ra6 := hide (Ra5.out.below h)
      have Rb6 := hide (Rb.out.below h)
      replace Rc := hide Rc
      clear h B5 R7 Ra5 Rb K3
      go_wp2_with fail
      refine (K4.out w6 R8.out).mono ?_
      rintro e w7 ⟨q4, d4, rfl, Rd, h⟩
      have B7 : Hid (Below W.heap.size W w7) := B6.out.trans (h.mono B6.out.size)
      have Ra7 := hide (Ra6.out.below h)
      have Rb7 := hide (Rb6.out.below h)
      have Rc7 := hide (Rc.out.below h)
      replace Rd := hide Rd
      clear h B6 R8 Ra6 Rb6 Rc K4
      go_wp2_with fail
      refine (K5.out w7).mono ?_
      rintro e w8 ⟨rfl, h⟩
      have B8 : Hid (Below W.heap.size W w8) := B7.out.trans (h.mono B7.out.size)
      have Ra8 := hide (Ra7.out.below h)
      have Rb8 := hide (Rb7.out.below h)
      have Rc8 := hide (Rc7.out.below h)
      have Rd8 := hide (Rd.out.below h)
      clear h B7 Ra7 Rb7 Rc7 Rd K5
      go_wp2_with fail
      refine (K6.out w8).mono ?_
      rintro e w9 ⟨rfl, h⟩
      have B9 : Hid (Below W.heap.size W w9) := B8.out.trans (h.mono B8.out.size)
      have E1 := hide (equal_yes q1 q2 l1 d1 d2 _ w9 m1 (Ra8.out.below h) (Rb8.out.below h))
      have Rc9 := hide (Rc8.out.below h)
      have Rd9 := hide (Rd8.out.below h)
      clear h B8 Ra8 Rb8 Rc8 Rd8 K6
      go_wp2_with fail
      refine E1.out.mono ?_
      rintro e wa ⟨rfl, hd⟩
      have BA := hide (below_drawn B9.out hd)
      have E2 : Hid (Calls Try.prog 13 #[.slice q3 l2 d3, .slice q4 l2 d4] wa fun e w' => e = .returned (.bool true) ∧ Drawn wa w') := by
        obtain ⟨k, rfl⟩ := hd
        exact equal_yes q3 q4 l2 d3 d4 _ (w9.drewN k) m2 Rc9.out Rd9.out
      clear hd B9 E1 Rc9 Rd9
      go_wp2_with fail
      refine E2.out.mono ?_
      rintro e wb ⟨rfl, hd⟩
      have BB := hide (below_drawn BA.out hd)
      clear hd BA E2
      go_wp2_with fail
      refine (A.out wb).mono ?_
      rintro e wz ⟨rfl, h⟩
      have BZ : Hid (Below W.heap.size W wz) := BB.out.trans (h.mono BB.out.size)
      clear h BB
      go_wp2_with fail
      go_ret
      exact ⟨rfl, BZ.out⟩
end Go.Proofs.Ytjaapdkhjgolfaa
