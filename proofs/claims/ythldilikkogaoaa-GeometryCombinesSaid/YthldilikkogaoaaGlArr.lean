/- How an argument that is an array of four integers reads; no condition. -/
import Derived.Test.YthldilikkogaoaaGlOpen
import Derived.Laws.IdiomArrays
namespace Go.Proofs.Ythldilikkogaoaa
open Go.ChangeShapes Go.WideShapes Go.ChangeAt Go.RowKit Go.Joins Go.Deep

section
variable {H : Type} {enc : TypeId × Value → H} {w : World} {base : Nat} {spare : Nat → Bool} {held : Bool} {r : Reach} {b0 : Nat} {v : Value} {d : DataW H} {p : List MemPlace}
theorem cells_arr4 : Try.prog.cellsOf 49 = 4 := by kernel_rfl
theorem open_arr4 (hv : Value.okWide Try.prog w r b0 49 v) (h : DataW.Trod enc Try.prog w base spare held 49 v d p) : ∃ a b c e : Int, v = .agg #[.int .i64 a, .int .i64 b, .int .i64 c, .int .i64 e] := by
  obtain ⟨cs, rfl, hsz, _⟩ : ∃ cs, v = .agg cs ∧ cs.size = Try.prog.cellsOf 49 ∧ Row.okWide Try.prog w r b0 49 cs := by
    have := hv
    simpa [Value.okWide, Try.underlying49] using this
  rw [cells_arr4] at hsz
  obtain ⟨l⟩ := cs
  match l, hsz with
  | [c0, c1, c2, c3], _ =>
    obtain ⟨fuel, hf⟩ := h
    obtain ⟨y0, y1, y2, y3, m, hx, hy0, hy1, hy2, hy3⟩ := trod_array4 Try.underlying49 (by kernel_rfl) hf
    obtain ⟨a, rfl⟩ := field_int hy0
    obtain ⟨b, rfl⟩ := field_int hy1
    obtain ⟨c, rfl⟩ := field_int hy2
    obtain ⟨e, rfl⟩ := field_int hy3
    exact ⟨a, b, c, e, rfl⟩
end
end Go.Proofs.Ythldilikkogaoaa
