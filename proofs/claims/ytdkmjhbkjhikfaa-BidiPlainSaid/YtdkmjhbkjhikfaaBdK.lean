/- The laws' sanity check returns true; no condition. -/
import Derived.Test.YtdkmjhbkjhikfaaBdL
import Derived.Test.YtdkmjhbkjhikfaaBdF
namespace Go.Proofs.Ytdkmjhbkjhikfaa
open Go.RowKit Go.Sort
set_option linter.unusedVariables false
set_option linter.unusedSimpArgs false

theorem c1488 : (cls 1488).d = 1 := by kernel_rfl
theorem c97 : (cls 97).d = 0 := by kernel_rfl
/-- The text of the check. -/
def tx2 (k : Nat) : Int := if k = 0 then 1488 else 97
set_option maxHeartbeats 1000000 in
theorem Base_first (tb ct : Nat) (w : World) (ht : w.cell? ⟨tb, 0, none⟩ = some (.int .i32 1488)) : Calls Try.prog 32 #[.slice (some ⟨tb, 0, none⟩) 2 ct, .int .i64 (-1)] w fun e w' => e = .returned (.int .i64 1) ∧ Grew w w' := by
  have K := hide (Bidi_any 1488 w (by omega))
  rw [c1488] at K
  go_enter Try.func32, Try.ntmps32
  go_wp2
  refine wp_loop_rounds 1 ?_
  rw [rounds_succ]
  go_wp2_with fail
  refine K.out.mono ?_
  rintro e w1 ⟨rfl, G1⟩
  have G1' := hide G1
  clear G1 K
  go_wp2_with fail
  refine (initiates_no 1 _ (Or.inl (by unfold Sm; omega))).mono ?_
  rintro e w' ⟨rfl, rfl⟩
  go_wp2
  go_ret
  exact ⟨rfl, G1'.out⟩
theorem two_levels {g f : Nat → Int} (h : LevP 2 1 g f) (g0 : g 0 = 1) (g1 : g 1 = 0) : f 0 = 1 ∧ f 1 = 2 := by
  obtain ⟨c, h1, h2⟩ := h
  have a := (h1 0 (by omega)).2.1 g0
  have b := (h1 1 (by omega)).1 g1
  have x := h2 0 (by omega)
  have y := h2 1 (by omega)
  rw [a] at x
  rw [b] at y
  have l1 : lvl 1 1 = 1 := rfl
  have l2 : lvl 1 0 = 2 := rfl
  rw [l1] at x
  rw [l2] at y
  omega
theorem two_order {f o : Nat → Int} (h0 : f 0 = 1) (h1 : f 1 = 2) (h : OrdR f 2 1 o) : o 0 = 1 ∧ o 1 = 0 := by
  have s3 : OrdR f 2 3 (fun i => (i : Int)) := OrdR.high (fun i _ => rfl) 2 (fun j hj => by
    rcases (show j = 0 ∨ j = 1 by omega) with rfl | rfl <;> simp [h0, h1]) 125 (by omega)
  have s2 : OrdR f 2 2 (fun i => (i : Int)) := .step 2 _ _ s3 fun i hi => ⟨fun _ => rfl, fun a b hs p1 p2 => by
    have q := hs.2.2.1
    have hb := hs.2.1
    have h0' : ¬ a = 0 := fun e => by subst e; have := q 0 (by omega) (by omega); rw [h0] at this; simp at this
    have : i = 1 ∧ a = 1 ∧ b = 2 := by omega
    obtain ⟨rfl, rfl, rfl⟩ := this
    rfl⟩
  have s1 : OrdR f 2 1 (fun i => ((1 - i : Nat) : Int)) := .step 1 _ _ s2 fun i hi => ⟨fun hl => by
    rcases (show i = 0 ∨ i = 1 by omega) with rfl | rfl
    · rw [h0] at hl; simp at hl
    · rw [h1] at hl; simp at hl, fun a b hs p1 p2 => by
    have ha : a = 0 := by
      rcases hs.2.2.2.1 with e | e
      · exact e
      · by_cases ha0 : a = 0
        · exact ha0
        exfalso
        have : a = 1 := by have := hs.2.1; omega
        subst this
        have e' : f 0 < ((1 : Nat) : Int) := e
        rw [h0] at e'
        simp at e'
    have hb : b = 2 := by
      rcases hs.2.2.2.2 with e | e
      · exact e
      · by_cases hb0 : b = 2
        · exact hb0
        exfalso
        have : b = 1 := by have := hs.2.1; have := hs.1; omega
        subst this
        rw [h1] at e
        simp at e
    subst ha hb
    rcases (show i = 0 ∨ i = 1 by omega) with rfl | rfl <;> rfl⟩
  exact ⟨h.uniq s1 0 (by omega), h.uniq s1 1 (by omega)⟩

theorem reads2 {w : World} {b : Nat} {x y : Int} (h : Blk w b 3 [.int .i64 x, .int .i64 y]) : Reads w (some ⟨b, 0, none⟩) 2 (fun k => if k = 0 then x else y) := fun _ => ⟨b, 0, rfl, fun k hk => by
  rcases (show k = 0 ∨ k = 1 by omega) with rfl | rfl
  · exact h.cell 0 rfl
  · exact h.cell 1 rfl⟩

set_option maxRecDepth 100000 in
set_option maxHeartbeats 2000000 in
theorem awake_any (w : World) : Calls Try.prog 11 #[] w fun e w' => e = .returned (.bool true) ∧ Grew w w' := by
  obtain ⟨B, hB⟩ : ∃ B, B = w.heap.size := ⟨_, rfl⟩
  have T : Blk (w.alloc (.cells [.int .i32 1488, .int .i32 97].toArray 21)) B 21 [.int .i32 1488, .int .i32 97] := Blk.new hB
  have G0 : Hid (Grew w (w.alloc (.cells [.int .i32 1488, .int .i32 97].toArray 21))) := (Grew.refl w).alloc _
  go_enter Try.func11, Try.ntmps11
  go_wp2_with fail
  rw [← hB]
  clear hB
  generalize w.alloc (.cells [.int .i32 1488, .int .i32 97].toArray 21) = w1 at *
  have K1 := hide (levels_any B 0 2 2 (-1) 1 tx2 w1 (fun k hk => by
    rw [Nat.zero_add]
    rcases (show k = 0 ∨ k = 1 by omega) with rfl | rfl
    · exact T.cell 0 rfl
    · exact T.cell 1 rfl) T.lt (fun k hk => by unfold tx2; split <;> omega) (by omega) (by omega) (Or.inr rfl) (fun k hk => by
    rcases (show k = 0 ∨ k = 1 by omega) with rfl | rfl
    · exact Or.inr (Or.inl c1488)
    · exact Or.inl c97) (fun k hk h => by
    rcases (show k = 0 ∨ k = 1 by omega) with rfl | rfl
    · have : (cls 1488).d = 7 := h
      rw [c1488] at this; omega
    · have : (cls 97).d = 7 := h
      rw [c97] at this; omega) (fun W G => Base_first B 2 W ((T.grew G).cell 0 rfl)))
  refine K1.out.mono ?_
  rintro e w2 ⟨lb, f, rfl, G2, hlb, R2, L2⟩
  obtain ⟨f0, f1⟩ := two_levels L2 c1488 c97
  have G2' := hide (G0.out.trans G2)
  have RF := hide R2
  have F := hide (And.intro f0 f1)
  clear K1 G2 R2 L2 f0 f1 T G0
  have RD := hide (RF.out.reads.grew ((Grew.refl w2).alloc (.cells #[.int .i64 1, .int .i64 2] 3)))
  have C2 := hide (reads2 (x := 1) (y := 2) (Blk.new (W := w2) (b := w2.heap.size) (T := 3) (vs := [.int .i64 1, .int .i64 2]) rfl))
  have KE := hide (equal_yes (some ⟨lb, 0, none⟩) (some ⟨w2.heap.size, 0, none⟩) 2 2 2 f (w2.alloc (.cells #[.int .i64 1, .int .i64 2] 3)) (by omega) RD.out (fun hn => by
    obtain ⟨b, off, e, hc⟩ := C2.out hn
    refine ⟨b, off, e, fun k hk => (hc k hk).trans ?_⟩
    rcases (show k = 0 ∨ k = 1 by omega) with rfl | rfl
    · rw [F.out.1]; rfl
    · rw [F.out.2]; rfl))
  clear RD C2
  go_wp2_with fail
  refine KE.out.mono ?_
  rintro e w3 ⟨rfl, G3⟩
  have G3' := hide ((G2'.out.alloc _).trans G3)
  have RF3 := hide ((RF.out.alloc _).grew G3)
  clear KE G3 RF G2'
  have KO := hide (Order_any 2 2 (some ⟨lb, 0, none⟩) f w3 RF3.out.reads (by omega) (fun j hj => by
    rcases (show j = 0 ∨ j = 1 by omega) with rfl | rfl
    · rw [F.out.1]; omega
    · rw [F.out.2]; omega))
  go_wp2_with fail
  refine KO.out.mono ?_
  rintro e w4 ⟨ob, rfl, G4, hob, o, R4, Q4⟩
  obtain ⟨o0, o1⟩ := two_order F.out.1 F.out.2 Q4
  have O := hide (And.intro o0 o1)
  have G4' := hide (G3'.out.trans G4)
  have R4' := hide R4
  clear KO G4 R4 Q4 o0 o1 RF3 G3'
  have RD := hide (R4'.out.reads.grew ((Grew.refl w4).alloc (.cells #[.int .i64 1, .int .i64 0] 3)))
  have C2 := hide (reads2 (x := 1) (y := 0) (Blk.new (W := w4) (b := w4.heap.size) (T := 3) (vs := [.int .i64 1, .int .i64 0]) rfl))
  have KE := hide (equal_yes (some ⟨ob, 0, none⟩) (some ⟨w4.heap.size, 0, none⟩) 2 2 2 o (w4.alloc (.cells #[.int .i64 1, .int .i64 0] 3)) (by omega) RD.out (fun hn => by
    obtain ⟨b, off, e, hc⟩ := C2.out hn
    refine ⟨b, off, e, fun k hk => (hc k hk).trans ?_⟩
    rcases (show k = 0 ∨ k = 1 by omega) with rfl | rfl
    · rw [O.out.1]; rfl
    · rw [O.out.2]; rfl))
  clear RD C2
  go_wp2_with fail
  refine KE.out.mono ?_
  rintro e w5 ⟨rfl, G5⟩
  have G5' := hide ((G4'.out.alloc _).trans G5)
  clear KE G5
  go_wp2
  go_ret
  exact ⟨rfl, G5'.out⟩
end Go.Proofs.Ytdkmjhbkjhikfaa
