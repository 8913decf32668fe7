/- What Empty, Contains, Intersect and Union of package geometry return; no condition. -/
import Derived.Test.YthldilikkogaoaaGeInts
namespace Go.Proofs.Ythldilikkogaoaa
open Go.RowKit Go.Sort

/-- A rectangle of numbers. -/
structure R where
  x : Int
  y : Int
  w : Int
  h : Int
def R.zero : R := ⟨0, 0, 0, 0⟩
def R.ok (r : R) : Bool := rectB r.x r.y r.w r.h
def R.empty (r : R) : Bool := !r.ok || r.w == 0 || r.h == 0
abbrev R.v (r : R) : Value := .agg #[.int .i64 r.x, .int .i64 r.y, .int .i64 r.w, .int .i64 r.h]

def R.kept (r : R) : R := if r.ok then r else R.zero
theorem inB_iff {x lo hi : Int} : inB x lo hi = true ↔ lo ≤ x ∧ x ≤ hi := by simp [inB]
theorem R.bounds {r : R} (h : r.ok = true) : (-1048576 ≤ r.x ∧ r.x ≤ 1048576) ∧ (-1048576 ≤ r.y ∧ r.y ≤ 1048576) ∧ (0 ≤ r.w ∧ r.w ≤ 1048576) ∧ (0 ≤ r.h ∧ r.h ≤ 1048576) := by
  simp only [R.ok, rectB, nearB, lenB, Bool.and_eq_true, inB_iff] at h
  exact ⟨h.1.1.1, h.1.1.2, h.1.2, h.2⟩
theorem R.full {r : R} (h : r.empty = false) : r.ok = true ∧ 0 < r.w ∧ 0 < r.h := by
  simp only [R.empty, Bool.or_eq_false_iff, Bool.not_eq_false', beq_eq_false_iff_ne] at h
  obtain ⟨⟨h1, h2⟩, h3⟩ := h
  have hb := R.bounds h1
  exact ⟨h1, by omega, by omega⟩

theorem Empty_any (r : R) (w : World) :
    Calls Try.prog 12 #[r.v] w fun e w' => e = .returned (.bool r.empty) ∧ Grew w w' := by
  obtain ⟨x, y, z, h⟩ := r
  by_cases h0 : rectB x y z h = true
  · have V := fun W => hide (Validate_ok x y z h W h0)
    by_cases h1 : z = 0
    · have H : Hid ((R.mk x y z h).empty = true) := by simp [Hid, R.empty, h1]
      have hz : (z == 0) = true := by simp [h1]
      clear h0 h1
      go_enter Try.func12, Try.ntmps12
      go_wp2_with fail
      refine (V _).out.mono ?_
      rintro e w' ⟨rfl, hG⟩
      obtain ⟨hc, hf⟩ := hG.cells
      have hG := hide hG
      go_wp2
      go_ret
      exact ⟨ret_bool H.out.symm, ((Grew.refl _).alloc _).trans hG.out⟩
    · have hz : (z == 0) = false := by simp [h1]
      by_cases h2 : h = 0
      · have H : Hid ((R.mk x y z h).empty = true) := by simp [Hid, R.empty, h2]
        have hz2 : (h == 0) = true := by simp [h2]
        clear h0 h1 h2
        go_enter Try.func12, Try.ntmps12
        go_wp2_with fail
        refine (V _).out.mono ?_
        rintro e w' ⟨rfl, hG⟩
        obtain ⟨hc, hf⟩ := hG.cells
        have hG := hide hG
        go_wp2
        go_ret
        exact ⟨ret_bool H.out.symm, ((Grew.refl _).alloc _).trans hG.out⟩
      · have H : Hid ((R.mk x y z h).empty = false) := by simp [Hid, R.empty, R.ok, h0, h1, h2]
        have hz2 : (h == 0) = false := by simp [h2]
        clear h0 h1 h2
        go_enter Try.func12, Try.ntmps12
        go_wp2_with fail
        refine (V _).out.mono ?_
        rintro e w' ⟨rfl, hG⟩
        obtain ⟨hc, hf⟩ := hG.cells
        have hG := hide hG
        go_wp2
        go_ret
        exact ⟨ret_bool H.out.symm, ((Grew.refl _).alloc _).trans hG.out⟩
  · have h0 : rectB x y z h = false := by simpa using h0
    have V := fun W => hide (Validate_bad x y z h W h0)
    have H : Hid ((R.mk x y z h).empty = true) := by simp [Hid, R.empty, R.ok, h0]
    clear h0
    go_enter Try.func12, Try.ntmps12
    go_wp2_with fail
    refine (V _).out.mono ?_
    rintro e w' ⟨rfl, hG⟩
    obtain ⟨hc, hf⟩ := hG.cells
    have hG := hide hG
    go_wp2
    go_ret
    exact ⟨ret_bool H.out.symm, ((Grew.refl _).alloc _).trans hG.out⟩

def fillR (l t r b : Int) : R := if r ≤ l ∨ b ≤ t then R.zero else ⟨l, t, r - l, b - t⟩
theorem filled_any (l t r b : Int) (w : World) (h1 : -1099511627776 ≤ l) (h2 : l ≤ 1099511627776) (h3 : -1099511627776 ≤ t) (h4 : t ≤ 1099511627776) (h5 : -1099511627776 ≤ r) (h6 : r ≤ 1099511627776) (h7 : -1099511627776 ≤ b) (h8 : b ≤ 1099511627776) :
    Calls Try.prog 37 #[.int .i64 l, .int .i64 t, .int .i64 r, .int .i64 b] w fun e w' => e = .returned (fillR l t r b).v ∧ Grew w w' := by
  by_cases c1 : r ≤ l
  · have H : Hid (fillR l t r b = R.zero) := if_pos (Or.inl c1)
    go_enter Try.func37, Try.ntmps37
    go_wp2
    rw [H.out]
    exact bodyPost_ret (v := R.zero.v) (by simp [results, Try.results37, go_sem, R.zero]) rfl ⟨rfl, (Grew.refl _).alloc _⟩
  · by_cases c2 : b ≤ t
    · have H : Hid (fillR l t r b = R.zero) := if_pos (Or.inr c2)
      go_enter Try.func37, Try.ntmps37
      go_wp2
      rw [H.out]
      exact bodyPost_ret (v := R.zero.v) (by simp [results, Try.results37, go_sem, R.zero]) rfl ⟨rfl, (Grew.refl _).alloc _⟩
    · have H : Hid (fillR l t r b = ⟨l, t, r - l, b - t⟩) := if_neg (by omega)
      go_enter Try.func37, Try.ntmps37
      go_wp2
      rw [H.out]
      exact bodyPost_ret (v := R.v ⟨l, t, r - l, b - t⟩) (by simp [results, Try.results37, go_sem]) rfl ⟨rfl, (Grew.refl _).alloc _⟩

end Go.Proofs.Ythldilikkogaoaa
