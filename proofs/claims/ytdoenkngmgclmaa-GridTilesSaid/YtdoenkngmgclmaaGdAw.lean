/- The laws' sanity check of package grid returns true where Tracks and Place answer as the chapter asks; no other condition. -/
import Derived.Test.YtdoenkngmgclmaaGdB
import Derived.Test.YtdoenkngmgclmaaFxEq
namespace Go.Proofs.Ytdoenkngmgclmaa
open Go.RowKit Go.Sort
set_option linter.unusedVariables false
set_option linter.unusedSimpArgs false

theorem pair_readsG (w : World) (a b : Int) : Reads (w.alloc (.cells #[.int .i64 a, .int .i64 b] 3)) (some ⟨w.heap.size, 0, none⟩) 2 (fun i => if i = 0 then a else b) :=
  (IRow.new w 2 (fun i => if i = 0 then a else b)).reads
theorem tracks_two (w : World) : SRow (w.alloc (.cells #[.int .i64 0, .int .i64 30, .int .i64 2, .int .i64 1] 42)) (some ⟨w.heap.size, 0, none⟩) 2 2 trV := fun _ => by
  refine ⟨w.heap.size, 0, rfl, by simp, fun i hi j hj => ?_⟩
  have e := heap_alloc_new w (.cells #[.int .i64 0, .int .i64 30, .int .i64 2, .int .i64 1] 42)
  unfold World.cell?
  rw [e]
  rcases (show i = 0 ∨ i = 1 by omega) with rfl | rfl
  · rcases (show j = 0 ∨ j = 1 by omega) with rfl | rfl <;> rfl
  · rcases (show j = 0 ∨ j = 1 by omega) with rfl | rfl <;> rfl
theorem below_drawnG {w0 w w' : World} (h : Below w0.heap.size w0 w) (d : Drawn w w') : Below w0.heap.size w0 w' := by
  obtain ⟨k, rfl⟩ := d
  exact ⟨h.os, h.tape, h.output, h.size, h.block⟩
set_option maxHeartbeats 4000000 in
theorem gawake_any (hT : KTr 16) (hP : KPl 9) (w : World) :
    Calls Try.prog 11 #[] w fun e w' => e = .returned (.bool true) ∧ Below w.heap.size w w' := by
  have H1 := hide (hT _ 2 _ (tracks_two w) (by omega))
  have HP := hide hP
  have B1 : Hid (Below w.heap.size w (w.alloc (.cells #[.int .i64 0, .int .i64 30, .int .i64 2, .int .i64 1] 42))) := (Below.refl _ _).alloc (Nat.le_refl _) _
  clear hT hP
  go_enter Try.func11, Try.ntmps11
  go_wp2_with fail
  refine H1.out.mono ?_
  rintro e w1 ⟨q, d, rfl, h1, h2⟩
  have R2 : Hid (Reads (w1.alloc (.cells #[.int .i64 30, .int .i64 60] 3)) q 2 (fun i => if i = 0 then 30 else 60)) := h1.below ((Below.refl _ _).alloc (Nat.le_refl _) _)
  have B2 : Hid (Below w.heap.size w w1) := B1.out.trans (h2.mono B1.out.size)
  have B3 : Hid (Below w.heap.size w (w1.alloc (.cells #[.int .i64 30, .int .i64 60] 3))) := B2.out.alloc B2.out.size _
  have E1 := hide (equal_yes q (some ⟨w1.heap.size, 0, none⟩) 2 d 2 _ _ (by omega) R2.out (pair_readsG w1 30 60))
  clear B2 H1 B1 h1 h2 R2
  go_wp2_with fail
  refine E1.out.mono ?_
  rintro e w2 ⟨rfl, hd⟩
  have B4 := hide (below_drawnG B3.out hd)
  have H2 := HP.out 2 (some ⟨w2.heap.size, 0, none⟩) 2 2 (fun i => if i = 0 then 1 else 2) _ (pair_readsG w2 1 2) (by omega)
  rw [pl_some (by omega)] at H2
  replace H2 := hide H2
  have B5 : Hid (Below w.heap.size w (w2.alloc (.cells #[.int .i64 1, .int .i64 2] 3))) := B4.out.alloc B4.out.size _
  clear E1 B3 hd B4 HP
  go_wp2_with fail
  refine H2.out.mono ?_
  rintro e w3 ⟨q3, d3, rfl, -, h2⟩
  have B6 : Hid (Below w.heap.size w w3) := B5.out.trans (h2.mono B5.out.size)
  clear H2 B5 h2
  go_wp2_with fail
  go_ret
  exact ⟨rfl, B6.out⟩
end Go.Proofs.Ytdoenkngmgclmaa
