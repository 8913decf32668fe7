/- pick: the element of a list of ints, or the list without it. -/
import Derived.Test.YtnhhmndnmkkhlaaDoorExLf
import Derived.Test.YtnhhmndnmkkhlaaDoorExTW
namespace Go.Proofs.YtnhhmndnmkkhlaaDoor
open Go.RowKit Go.Sort
set_option linter.unusedVariables false
set_option linter.unusedSimpArgs false
set_option maxRecDepth 20000

set_option maxHeartbeats 4000000 in
theorem pick_out (op : Int) (p : Option Addr) (m c : Nat) (at_ : Int) (w : World) (hm : m ≤ 200) (h : at_ < 0 ∨ (m : Int) ≤ at_) :
    Calls Tryd.prog 85 #[.int .i64 op, .slice p m c, .int .i64 at_] w fun e w' => e = .returned (.tuple #[nv 0 0, .int .i64 1]) ∧ Grew w w' := by
  by_cases h1 : at_ < 0
  · go_enter Tryd.func85, Tryd.ntmps85
    go_wp2
    refine bodyPost_ret (v := .tuple #[nv 0 0, .int .i64 1]) (by simp [results, Tryd.results85, go_sem]) rfl ⟨rfl, ?_⟩
    repeat' (first | (with_reducible exact Grew.refl _) | (with_reducible refine Grew.setCell ?_ ?_ _) | (with_reducible refine Grew.drewN ?_ _) | (with_reducible refine Grew.reD ?_ _) | (with_reducible refine Grew.alloc ?_ _) | (dsimp only; omega))
  · have h2 : (m : Int) ≤ at_ := by omega
    clear h
    go_enter Tryd.func85, Tryd.ntmps85
    go_wp2
    refine bodyPost_ret (v := .tuple #[nv 0 0, .int .i64 1]) (by simp [results, Tryd.results85, go_sem]) rfl ⟨rfl, ?_⟩
    repeat' (first | (with_reducible exact Grew.refl _) | (with_reducible refine Grew.setCell ?_ ?_ _) | (with_reducible refine Grew.drewN ?_ _) | (with_reducible refine Grew.reD ?_ _) | (with_reducible refine Grew.alloc ?_ _) | (dsimp only; omega))
set_option maxHeartbeats 4000000 in
theorem pick_item (p : Option Addr) (m c : Nat) (g : Nat → Int) (k : Nat) (w : World) (hm : m ≤ 200) (hk : k < m) (hr : Row w w.heap.size p m (fun i => nd 1 (g i))) :
    Calls Tryd.prog 85 #[.int .i64 20, .slice p m c, .int .i64 (k : Int)] w fun e w' => e = .returned (.tuple #[nv 1 (g k), .int .i64 0]) ∧ Grew w w' := by
  obtain ⟨b, off, rfl, hb, hc⟩ := hr (by omega)
  obtain ⟨x0, x1, x2, x3⟩ := hc k hk
  dsimp only at x0 x1 x2 x3
  have h1 : ¬ (k : Int) < 0 := by omega
  have h2 : ¬ (m : Int) ≤ (k : Int) := by omega
  have h3 : (k : Int) < (m : Int) := by omega
  generalize g k = gk at *
  clear hc hr
  go_enter Tryd.func85, Tryd.ntmps85
  go_wp2
  refine bodyPost_ret (v := .tuple #[nv 1 gk, .int .i64 0]) (by simp [results, Tryd.results85, go_sem]) rfl ⟨rfl, ?_⟩
  repeat' (first | (with_reducible exact Grew.refl _) | (with_reducible refine Grew.setCell ?_ ?_ _) | (with_reducible refine Grew.drewN ?_ _) | (with_reducible refine Grew.reD ?_ _) | (with_reducible refine Grew.alloc ?_ _) | (dsimp only; omega))
end Go.Proofs.YtnhhmndnmkkhlaaDoor
