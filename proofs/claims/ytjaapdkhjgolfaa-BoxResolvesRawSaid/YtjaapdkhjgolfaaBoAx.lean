/- The laws' sanity check of package box returns true where Resolve and Offsets answer as the chapter asks; no other condition. -/
import Derived.Test.YtjaapdkhjgolfaaBoAw
namespace Go.Proofs.Ytjaapdkhjgolfaa
open Go.RowKit Go.Sort
set_option linter.unusedVariables false
set_option linter.unusedSimpArgs false

theorem below_drawn {w0 w w' : World} (h : Below w0.heap.size w0 w) (d : Drawn w w') : Below w0.heap.size w0 w' := by
  obtain ⟨k, rfl⟩ := d
  exact ⟨h.os, h.tape, h.output, h.size, h.block⟩
set_option maxHeartbeats 4000000 in
theorem bawake_any (hR : KRes 11) (hO : KOff 20) (w : World) :
    Calls Try.prog 14 #[] w fun e w' => e = .returned (.bool true) ∧ Below w.heap.size w w' := by
  have H1 := hR 100 10 _ 2 2 awX _ (srow_two w awX) (by omega)
  have HO := hide hO
  have B1 : Hid (Below w.heap.size w (w.alloc (.cells #[fxC awX 0 0, fxC awX 0 1, fxC awX 0 2, fxC awX 0 3, fxC awX 0 4, fxC awX 1 0, fxC awX 1 1, fxC awX 1 2, fxC awX 1 3, fxC awX 1 4] 36))) := (Below.refl _ _).alloc (Nat.le_refl _) _
  have e0 : erR 100 10 awX 2 = 0 := er_ok (by omega) (by omega) (by omega) aw_ok
  simp only [e0, if_true, eq_self_iff_true] at H1
  replace H1 := hide H1
  clear hR hO e0
  go_enter Try.func14, Try.ntmps14
  go_wp2_with fail
  refine H1.out.mono ?_
  rintro e w1 ⟨q, d, rfl, h1, h2⟩
  have R1 : Hid (Reads w1 q 2 (fun i => if i = 0 then 40 else 50)) := h1.congr aw_res
  have B2 : Hid (Below w.heap.size w w1) := B1.out.trans (h2.mono B1.out.size)
  clear H1 B1 h1 h2
  have R2 : Hid (Reads (w1.alloc (.cells #[.int .i64 40, .int .i64 50] 3)) q 2 (fun i => if i = 0 then 40 else 50)) := R1.out.below ((Below.refl _ _).alloc (Nat.le_refl _) _)
  have B3 : Hid (Below w.heap.size w (w1.alloc (.cells #[.int .i64 40, .int .i64 50] 3))) := B2.out.alloc B2.out.size _
  have E1 := hide (equal_yes q (some ⟨w1.heap.size, 0, none⟩) 2 d 2 _ _ (by omega) R2.out (pair_reads w1 40 50))
  clear B2 R1
  go_wp2_with fail
  refine E1.out.mono ?_
  rintro e w2 ⟨rfl, hd⟩
  have B4 := hide (below_drawn B3.out hd)
  have R3 : Hid (Reads w2 q 2 (fun i => if i = 0 then 40 else 50)) := by obtain ⟨k, rfl⟩ := hd; exact R2.out
  clear E1 B3 R2 hd
  have H2 := HO.out 100 10 0 q 2 d _ true w2 R3.out (by omega)
  simp only [aw_ob, if_true, eq_self_iff_true] at H2
  replace H2 := hide H2
  go_wp2_with fail
  refine H2.out.mono ?_
  rintro e w3 ⟨q3, d3, rfl, h1, h2⟩
  have R4 : Hid (Reads w3 q3 2 (fun i => if i = 0 then 60 else 0)) := h1.congr aw_of
  have B5 : Hid (Below w.heap.size w w3) := B4.out.trans (h2.mono B4.out.size)
  clear H2 B4 h1 h2 R3 HO
  have R5 : Hid (Reads (w3.alloc (.cells #[.int .i64 60, .int .i64 0] 3)) q3 2 (fun i => if i = 0 then 60 else 0)) := R4.out.below ((Below.refl _ _).alloc (Nat.le_refl _) _)
  have B6 : Hid (Below w.heap.size w (w3.alloc (.cells #[.int .i64 60, .int .i64 0] 3))) := B5.out.alloc B5.out.size _
  have E2 := hide (equal_yes q3 (some ⟨w3.heap.size, 0, none⟩) 2 d3 2 _ _ (by omega) R5.out (pair_reads w3 60 0))
  clear B5 R4
  go_wp2_with fail
  refine E2.out.mono ?_
  rintro e w4 ⟨rfl, hd⟩
  have B7 := hide (below_drawn B6.out hd)
  clear E2 B6 R5 hd
  go_wp2_with fail
  go_ret
  exact ⟨rfl, B7.out⟩
end Go.Proofs.Ytjaapdkhjgolfaa
