/- Eval at an operator of two ints that are written out; the law's fits. -/
import Derived.Test.YtnhhmndnmkkhlaaDoorExR
namespace Go.Proofs.YtnhhmndnmkkhlaaDoor
open Go.RowKit Go.Sort
set_option linter.unusedVariables false
set_option linter.unusedSimpArgs false

theorem LfB.nil (g : Nat → Bd) : LfB g 0 := fun i hi => absurd hi (by omega)
theorem BRow.nil {W : World} {B : Nat} {p : Option Addr} {g : Nat → Bd} : BRow W B p 0 g := fun h => absurd h (by omega)
theorem Op5.two {op : Int} (h : Op5 op) : Op2 op := by
  rcases h with rfl | rfl | rfl | rfl | rfl <;> simp [Op2]
theorem ar_ok (op a b : Int) (w : World) (ab : Nat) (hop : Op5 op) (ha : nuB a = true) (hb : nuB b = true) (hA : Blk w ab 58 [.int .i64 1, .int .i64 a, .string ⟨#[]⟩, .slice none 0 0, .int .i64 1, .int .i64 b, .string ⟨#[]⟩, .slice none 0 0]) :
    Calls Tryd.prog 30 #[.agg #[.int .i64 op, .int .i64 0, .string ⟨#[]⟩, .slice (some ⟨ab, 0, none⟩) 2 2], .slice none 0 0] w fun e w' => e = .returned (.tuple #[nv (opR op 1 a 1 b).2.1 (opR op 1 a 1 b).2.2, .int .i64 (opR op 1 a 1 b).1]) ∧ Grew w w' := by
  have hR : Row w w.heap.size (some ⟨ab, 0, none⟩) 2 (two (nd 1 a) (nd 1 b)) := Row.two hA hA.lt
  have h6 := hop.six
  unfold Op6 at h6
  have hV : Vl w w.heap.size ⟨op, 0, ⟨#[]⟩, 2, some ⟨ab, 0, none⟩, 2⟩ 1 3 :=
    Vl.node (ts := fun _ => 1) (.inr (.inr (.inr ⟨by show 4 < op; omega, rfl, rfl, .inr (.inl ⟨hop.two, rfl⟩)⟩))) hR (by omega) (by omega) fun i hi => by
      match i, hi with
      | 0, _ => exact Vl.leaf (.inl ⟨rfl, ha, rfl, rfl⟩) rfl (by omega) (by omega)
      | 1, _ => exact Vl.leaf (.inl ⟨rfl, hb, rfl, rfl⟩) rfl (by omega) (by omega)
  have hE : Evs w w.heap.size none 0 0 ⟨op, 0, ⟨#[]⟩, 2, some ⟨ab, 0, none⟩, 2⟩ (opR op 1 a 1 b) :=
    Evs.bin (op := op) (k0 := 1) (n0 := a) (k1 := 1) (n1 := b) (c := 2) (s := ⟨#[]⟩) (pe := none) (me := 0) (ce := 0) hop hR (Nat.le_refl _) Evs.int Evs.int (.inl ⟨rfl, ha⟩) (.inl ⟨rfl, hb⟩)
  generalize opR op 1 a 1 b = r at *
  obtain ⟨r0, r1, r2⟩ := r
  have := Eval_ok (d := ⟨op, 0, ⟨#[]⟩, 2, some ⟨ab, 0, none⟩, 2⟩) (t := 3) (E := r0) (K := r1) (N := r2) (g := fun _ => ⟨⟨#[]⟩, nd 1 0⟩) w hV (by omega) hE (by omega) BRow.nil (LfB.nil _)
  exact this

/-- A number, or the error where it is out of range. -/
def sR (n : Int) : Int × Int × Int := if nuB n = true then (0, 1, n) else (1, 0, 0)
theorem opR_add (a b : Int) : opR 5 1 a 1 b = sR (a + b) := by simp [opR, calR, sR]
theorem opR_sub (a b : Int) : opR 6 1 a 1 b = sR (a - b) := by simp [opR, calR, sR]
theorem opR_div0 (a : Int) : opR 8 1 a 1 0 = (1, 0, 0) := by simp [opR, calR]
theorem opR_mod0 (a : Int) : opR 9 1 a 1 0 = (1, 0, 0) := by simp [opR, calR]
theorem opR_mul0 (a : Int) : opR 7 1 a 1 0 = (0, 1, 0) := by simp [opR, calR, nuB]
theorem Sm.nu {n : Int} (h : Sm n) : nuB n = true := by unfold nuB; unfold Sm at h; simpa using h
theorem opR_div {a b : Int} (ha : Sm a) (hb : Sm b) (h0 : b ≠ 0) : opR 8 1 a 1 b = (0, 1, flr a b) := by
  obtain ⟨-, -, h, -⟩ := flr_bd ha hb h0
  simp [opR, calR, h0, h.nu]
theorem opR_mod {a b : Int} (ha : Sm a) (hb : Sm b) (h0 : b ≠ 0) : opR 9 1 a 1 b = (0, 1, a - b * flr a b) := by
  obtain ⟨-, -, -, h, -⟩ := flr_bd ha hb h0
  simp [opR, calR, h0, h.nu]
theorem opR_mul {a b : Int} (h : (a * b).natAbs ≤ 1099511627776) : opR 7 1 a 1 b = (0, 1, a * b) := by
  have : nuB (a * b) = true := Sm.nu ⟨by omega, by omega⟩
  simp [opR, calR, h, this]
theorem opR_mulx {a b : Int} (h : ¬ (a * b).natAbs ≤ 1099511627776) : opR 7 1 a 1 b = (1, 0, 0) := by
  simp [opR, calR, h]
end Go.Proofs.YtnhhmndnmkkhlaaDoor
