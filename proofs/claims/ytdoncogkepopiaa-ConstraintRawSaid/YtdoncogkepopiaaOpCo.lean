/- How arguments that are slices of constraints read; no condition. -/
import Derived.Test.YtdoncogkepopiaaRows8
import Derived.Test.YtdoncogkepopiaaCoM
namespace Go.Proofs.Ytdoncogkepopiaa
open Go.ChangeShapes Go.WideShapes Go.ChangeAt Go.RowKit Go.Sort
set_option linter.unusedVariables false

theorem c_intC : Try.prog.cellsOf 3 = 1 := by kernel_rfl
theorem c_cons : Try.prog.cellsOf 40 = 5 := by kernel_rfl
theorem cons_cells {H : Type} {enc : TypeId × Value → H} {W : World} {sp : Nat → Bool} {hd : Bool} (fuel : Nat) (cs : List Value) (x : DataW H × List MemPlace) (h : DataW.trod enc Try.prog W 0 sp hd fuel 40 cs = some x) :
    ∃ t : Cn, cs = [.int .i64 t.a, .int .i64 t.b, .int .i64 t.rel, .int .i64 t.cc, .int .i64 t.st] := by
  obtain ⟨xs, n, rfl, rfl, hl, hlen, hf⟩ := DataW.trod_struct Try.underlying40 h
  rw [c_cons] at hl
  match cs, hl with
  | [u0, u1, u2, u3, u4], _ =>
    have h0 := hf 0 _ rfl
    have h1 := hf 1 _ rfl
    have h2 := hf 2 _ rfl
    have h3 := hf 3 _ rfl
    have h4 := hf 4 _ rfl
    match xs, hlen with
    | [y0, y1, y2, y3, y4], _ =>
      simp only [List.getElem?_cons_zero, List.getElem?_cons_succ] at h0 h1 h2 h3 h4
      obtain ⟨k0, e0, -, -⟩ := DataW.trod_int Try.underlying3 h0
      obtain ⟨k1, e1, -, -⟩ := DataW.trod_int Try.underlying3 h1
      obtain ⟨k2, e2, -, -⟩ := DataW.trod_int Try.underlying3 h2
      obtain ⟨k3, e3, -, -⟩ := DataW.trod_int Try.underlying3 h3
      obtain ⟨k4, e4, -, -⟩ := DataW.trod_int Try.underlying3 h4
      simp [c_intC] at e0 e1 e2 e3 e4
      subst e0 e1 e2 e3 e4
      exact ⟨⟨k0, k1, k2, k3, k4⟩, rfl⟩
set_option maxRecDepth 100000 in
theorem open_cons {H : Type} {enc : TypeId × Value → H} {W : World} {r : Reach} {base : Nat} {v : Value} {d : DataW H} {p : List MemPlace} (hok : Value.okWide Try.prog W r base 22 v)
    (h : DataW.Trod enc Try.prog W 0 (fun _ => true) true 22 v d p) : ∃ (q : Option Addr) (n c : Nat) (x : Nat → Cn), v = .slice q n c ∧ n ≤ c ∧ n ≤ 9223372036854775807 ∧ SRow W q n 5 (cnC x) := by
  obtain ⟨a0, len, cap, rfl⟩ := okWide_slice Try.underlying22 hok
  obtain ⟨fuel, hf⟩ := h
  obtain ⟨q, m, c, f, he, hmc, hm, hr, hq⟩ := open_rows Try.underlying22 c_cons (by decide) (fun fu cs x h => cons_cells fu cs x h) hf
  simp [Value.cells] at he
  obtain ⟨rfl, rfl, rfl⟩ := he
  have each : ∀ i, ∃ t : Cn, i < len → rowL 5 (f i) = [.int .i64 t.a, .int .i64 t.b, .int .i64 t.rel, .int .i64 t.cc, .int .i64 t.st] := fun i => by
    by_cases hi : i < len
    · obtain ⟨t, e⟩ := hq i hi
      exact ⟨t, fun _ => e⟩
    · exact ⟨⟨0, 0, 0, 0, 0⟩, fun h => absurd h hi⟩
  refine ⟨a0, len, cap, fun i => Classical.choose (each i), rfl, hmc, hm, fun hp => ?_⟩
  obtain ⟨b, off, hb, hbl, hc⟩ := hr hp
  refine ⟨b, off, hb, hbl, fun i hi j hj => ?_⟩
  rw [hc i hi j hj]
  have e := Classical.choose_spec (each i) hi
  have g : (rowL 5 (f i))[j]? = some (f i j) := by simp [rowL, hj]
  rw [e] at g
  rcases (show j = 0 ∨ j = 1 ∨ j = 2 ∨ j = 3 ∨ j = 4 by omega) with rfl | rfl | rfl | rfl | rfl <;> (simp at g; rw [← g]; rfl)
end Go.Proofs.Ytdoncogkepopiaa
