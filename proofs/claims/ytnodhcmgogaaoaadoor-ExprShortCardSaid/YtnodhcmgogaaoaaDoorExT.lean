/- Eval at an operator of two ints that are written out; the law's fits. -/
import Derived.Test.YtnodhcmgogaaoaaDoorExR
namespace Go.Proofs.YtnodhcmgogaaoaaDoor
open Go.RowKit Go.Sort
set_option linter.unusedVariables false
set_option linter.unusedSimpArgs false

theorem LfB.nil (g : Nat → Bd) : LfB g 0 := fun i hi => absurd hi (by omega)
theorem BRow.nil {W : World} {B : Nat} {p : Option Addr} {g : Nat → Bd} : BRow W B p 0 g := fun h => absurd h (by omega)
theorem Op5.two {op : Int} (h : Op5 op) : Op2 op := by
  rcases h with rfl | rfl | rfl | rfl | rfl <;> simp [Op2]
theorem ar_ok (op a b : Int) (w : World) (ab : Nat) (hop : Op5 op) (ha : nuB a = true) (hb : nuB b = true) (hA : Blk w ab 62 [.int .i64 1, .int .i64 a, .string ⟨#[]⟩, .slice none 0 0, .int .i64 1, .int .i64 b, .string ⟨#[]⟩, .slice none 0 0]) :
    Calls Tryd.prog 39 #[.agg #[.int .i64 op, .int .i64 0, .string ⟨#[]⟩, .slice (some ⟨ab, 0, none⟩) 2 2], .slice none 0 0] w fun e w' => e = .returned (.tuple #[nv (opR op 1 a 1 b).2.1 (opR op 1 a 1 b).2.2, .int .i64 (opR op 1 a 1 b).1]) ∧ Grew w w' := by
  have hR : Row w w.heap.size (some ⟨ab, 0, none⟩) 2 (two (nd 1 a) (nd 1 b)) := Row.two hA hA.lt
  have h6 := hop.six
  unfold Op6 at h6
  have hV : Vl w w.heap.size ⟨op, 0, ⟨#[]⟩, 2, some ⟨ab, 0, none⟩, 2⟩ 1 3 :=
    Vl.node (ts := fun _ => 1) (.inr (.inr (.inr ⟨by show 4 < op; omega, rfl, rfl, .inr (.inl ⟨hop.two, rfl⟩)⟩))) hR (by omega) (by omega) fun i hi => by
      match i, hi with
      | 0, _ => exact Vl.leaf (.inl ⟨rfl, ha, rfl, rfl⟩) rfl (by omega) (by omega)
      | 1, _ => exact Vl.leaf (.inl ⟨rfl, hb, rfl, rfl⟩) rfl (by omega) (by omega)
  have hE : Evs w w.heap.size none 0 0 ⟨op, 0, ⟨#[]⟩, 2, some ⟨ab, 0, none⟩, 2⟩ (opR op 1 a 1 b) :=
    Evs.bin (op := op) (k0 := 1) (n0 := a) (k1 := 1) (n1 := b) (c := 2) (s := ⟨#[]⟩) (pe := none) (me := 0) (ce := 0) hop hR (Nat.le_refl _) Evs.int Evs.int (.inl ⟨rfl, ha⟩) (.inl ⟨rfl, hb⟩)
  generalize opR op 1 a 1 b = r at *
  obtain ⟨r0, r1, r2⟩ := r
  have := Eval_ok (d := ⟨op, 0, ⟨#[]⟩, 2, some ⟨ab, 0, none⟩, 2⟩) (t := 3) (E := r0) (K := r1) (N := r2) (g := fun _ => ⟨⟨#[]⟩, nd 1 0⟩) w hV (by omega) hE (by omega) BRow.nil (LfB.nil _)
  exact this

/-- A number, or the error where it is out of range. -/
def sR (n : Int) : Int × Int × Int := if nuB n = true then (0, 1, n) else (1, 0, 0)
set_option maxHeartbeats 4000000 in
theorem lfits_any (n : Int) (w : World) : Calls Tryd.prog 41 #[.int .i64 n, nv (sR n).2.1 (sR n).2.2, .int .i64 (sR n).1] w fun e w' => e = .returned (.bool true) ∧ Grew w w' := by
  by_cases h : nuB n = true
  · rw [show sR n = (0, 1, n) by simp [sR, h]]
    unfold nuB at h
    obtain ⟨h1, h2⟩ := of_decide_eq_true h
    have h1' : ¬ n < -1099511627776 := by omega
    have h2' : ¬ 1099511627776 < n := by omega
    clear h
    dsimp only
    go_enter Tryd.func41, Tryd.ntmps41
    go_wp2
    go_ret
    refine ⟨ret_bool (by simp), ?_⟩
    repeat' (first | (with_reducible exact Grew.refl _) | (with_reducible refine Grew.setCell ?_ ?_ _) | (with_reducible refine Grew.drewN ?_ _) | (with_reducible refine Grew.reD ?_ _) | (with_reducible refine Grew.alloc ?_ _) | (dsimp only; omega))
  · rw [show sR n = (1, 0, 0) by simp [sR, h]]
    unfold nuB at h
    dsimp only
    by_cases h1 : n < -1099511627776
    · clear h
      go_enter Tryd.func41, Tryd.ntmps41
      go_wp2
      go_ret
      refine ⟨rfl, ?_⟩
      repeat' (first | (with_reducible exact Grew.refl _) | (with_reducible refine Grew.setCell ?_ ?_ _) | (with_reducible refine Grew.drewN ?_ _) | (with_reducible refine Grew.reD ?_ _) | (with_reducible refine Grew.alloc ?_ _) | (dsimp only; omega))
    · have h2 : 1099511627776 < n := by
        have := of_decide_eq_false (by simpa using h : decide (-1099511627776 ≤ n ∧ n ≤ 1099511627776) = false)
        omega
      clear h
      go_enter Tryd.func41, Tryd.ntmps41
      go_wp2
      go_ret
      refine ⟨rfl, ?_⟩
      repeat' (first | (with_reducible exact Grew.refl _) | (with_reducible refine Grew.setCell ?_ ?_ _) | (with_reducible refine Grew.drewN ?_ _) | (with_reducible refine Grew.reD ?_ _) | (with_reducible refine Grew.alloc ?_ _) | (dsimp only; omega))
theorem opR_add (a b : Int) : opR 5 1 a 1 b = sR (a + b) := by simp [opR, calR, sR]
theorem opR_sub (a b : Int) : opR 6 1 a 1 b = sR (a - b) := by simp [opR, calR, sR]
theorem opR_div0 (a : Int) : opR 8 1 a 1 0 = (1, 0, 0) := by simp [opR, calR]
theorem opR_mod0 (a : Int) : opR 9 1 a 1 0 = (1, 0, 0) := by simp [opR, calR]
theorem opR_mul0 (a : Int) : opR 7 1 a 1 0 = (0, 1, 0) := by simp [opR, calR, nuB]
theorem Sm.nu {n : Int} (h : Sm n) : nuB n = true := by unfold nuB; unfold Sm at h; simpa using h
theorem opR_div {a b : Int} (ha : Sm a) (hb : Sm b) (h0 : b ≠ 0) : opR 8 1 a 1 b = (0, 1, flr a b) := by
  obtain ⟨-, -, h, -⟩ := flr_bd ha hb h0
  simp [opR, calR, h0, h.nu]
theorem opR_mod {a b : Int} (ha : Sm a) (hb : Sm b) (h0 : b ≠ 0) : opR 9 1 a 1 b = (0, 1, a - b * flr a b) := by
  obtain ⟨-, -, -, h, -⟩ := flr_bd ha hb h0
  simp [opR, calR, h0, h.nu]
theorem opR_mul {a b : Int} (h : (a * b).natAbs ≤ 1099511627776) : opR 7 1 a 1 b = (0, 1, a * b) := by
  have : nuB (a * b) = true := Sm.nu ⟨by omega, by omega⟩
  simp [opR, calR, h, this]
theorem opR_mulx {a b : Int} (h : ¬ (a * b).natAbs ≤ 1099511627776) : opR 7 1 a 1 b = (1, 0, 0) := by
  simp [opR, calR, h]
theorem rFloor_grew (a b : Int) (w : World) (h : inR a b) : Calls Tryd.prog 42 #[.int .i64 a, .int .i64 b] w fun e w' => e = .returned (.int .i64 (flr a b)) ∧ Grew w w' :=
  (rFloor_in a b w h).mono fun _ _ ⟨e, h⟩ => ⟨e, h ▸ Grew.refl _⟩
theorem rFloor_same (a b : Int) (w : World) (h : inR a b) : Calls Tryd.prog 42 #[.int .i64 a, .int .i64 b] w fun e w' => e = .returned (.int .i64 (flr a b)) ∧ w' = w :=
  (rFloor_in a b w h).mono fun _ _ ⟨e, h⟩ => ⟨e, h.symm⟩
end Go.Proofs.YtnodhcmgogaaoaaDoor
