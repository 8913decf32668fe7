/- How arguments that are slices of rows or of sections read; no condition. -/
import Derived.Test.YtbmkamnjjfmdiaaRows8
import Derived.Test.YtbmkamnjjfmdiaaScM
namespace Go.Proofs.Ytbmkamnjjfmdiaa
open Go.ChangeShapes Go.WideShapes Go.ChangeAt Go.RowKit Go.Sort
set_option linter.unusedVariables false

theorem c_intS : Try.prog.cellsOf 3 = 1 := by kernel_rfl
theorem c_strS : Try.prog.cellsOf 9 = 1 := by kernel_rfl
theorem c_strip : Try.prog.cellsOf 38 = 2 := by kernel_rfl
theorem c_sect : Try.prog.cellsOf 43 = 3 := by kernel_rfl
theorem strip_cells {H : Type} {enc : TypeId × Value → H} {W : World} {sp : Nat → Bool} {hd : Bool} (fuel : Nat) (cs : List Value) (x : DataW H × List MemPlace) (h : DataW.trod enc Try.prog W 0 sp hd fuel 38 cs = some x) :
    ∃ t : Stp, cs = [.string t.k, .int .i64 t.h] ∧ t.k.size ≤ 9223372036854775807 := by
  obtain ⟨xs, n, rfl, rfl, hl, hlen, hf⟩ := DataW.trod_struct Try.underlying38 h
  rw [c_strip] at hl
  match cs, hl with
  | [u0, u1], _ =>
    have h0 := hf 0 _ rfl
    have h1 := hf 1 _ rfl
    match xs, hlen with
    | [y0, y1], _ =>
      simp only [List.getElem?_cons_zero, List.getElem?_cons_succ] at h0 h1
      obtain ⟨s, e0, -, hs⟩ := DataW.trod_string Try.underlying9 h0
      obtain ⟨k1, e1, -, -⟩ := DataW.trod_int Try.underlying3 h1
      simp [c_intS, c_strS] at e0 e1
      subst e0 e1
      exact ⟨⟨s, k1⟩, rfl, by unfold maxLen at hs; exact hs⟩
theorem sect_cells {H : Type} {enc : TypeId × Value → H} {W : World} {sp : Nat → Bool} {hd : Bool} (fuel : Nat) (cs : List Value) (x : DataW H × List MemPlace) (h : DataW.trod enc Try.prog W 0 sp hd fuel 43 cs = some x) :
    ∃ t : Sct, cs = [.int .i64 t.tp, .int .i64 t.ht, .int .i64 t.hd] := by
  obtain ⟨xs, n, rfl, rfl, hl, hlen, hf⟩ := DataW.trod_struct Try.underlying43 h
  rw [c_sect] at hl
  match cs, hl with
  | [u0, u1, u2], _ =>
    have h0 := hf 0 _ rfl
    have h1 := hf 1 _ rfl
    have h2 := hf 2 _ rfl
    match xs, hlen with
    | [y0, y1, y2], _ =>
      simp only [List.getElem?_cons_zero, List.getElem?_cons_succ] at h0 h1 h2
      obtain ⟨k0, e0, -, -⟩ := DataW.trod_int Try.underlying3 h0
      obtain ⟨k1, e1, -, -⟩ := DataW.trod_int Try.underlying3 h1
      obtain ⟨k2, e2, -, -⟩ := DataW.trod_int Try.underlying3 h2
      simp [c_intS] at e0 e1 e2
      subst e0 e1 e2
      exact ⟨⟨k0, k1, k2⟩, rfl⟩
set_option maxRecDepth 100000 in
theorem open_strip {H : Type} {enc : TypeId × Value → H} {W : World} {r : Reach} {base : Nat} {v : Value} {d : DataW H} {p : List MemPlace} (hok : Value.okWide Try.prog W r base 22 v)
    (h : DataW.Trod enc Try.prog W 0 (fun _ => true) true 22 v d p) : ∃ (q : Option Addr) (n c : Nat) (x : Nat → Stp), v = .slice q n c ∧ n ≤ c ∧ n ≤ 9223372036854775807 ∧ SRow W q n 2 (stC x) ∧ ∀ i, i < n → (x i).k.size ≤ 9223372036854775807 := by
  obtain ⟨a0, len, cap, rfl⟩ := okWide_slice Try.underlying22 hok
  obtain ⟨fuel, hf⟩ := h
  obtain ⟨q, m, c, f, he, hmc, hm, hr, hq⟩ := open_rows Try.underlying22 c_strip (by decide) (fun fu cs x h => strip_cells fu cs x h) hf
  simp [Value.cells] at he
  obtain ⟨rfl, rfl, rfl⟩ := he
  have each : ∀ i, ∃ t : Stp, i < len → rowL 2 (f i) = [.string t.k, .int .i64 t.h] ∧ t.k.size ≤ 9223372036854775807 := fun i => by
    by_cases hi : i < len
    · obtain ⟨t, e⟩ := hq i hi
      exact ⟨t, fun _ => e⟩
    · exact ⟨⟨⟨#[]⟩, 0⟩, fun h => absurd h hi⟩
  refine ⟨a0, len, cap, fun i => Classical.choose (each i), rfl, hmc, hm, fun hp => ?_, fun i hi => (Classical.choose_spec (each i) hi).2⟩
  obtain ⟨b, off, hb, hbl, hc⟩ := hr hp
  refine ⟨b, off, hb, hbl, fun i hi j hj => ?_⟩
  rw [hc i hi j hj]
  have e := (Classical.choose_spec (each i) hi).1
  have g : (rowL 2 (f i))[j]? = some (f i j) := by simp [rowL, hj]
  rw [e] at g
  rcases (show j = 0 ∨ j = 1 by omega) with rfl | rfl <;> (simp at g; rw [← g]; rfl)
set_option maxRecDepth 100000 in
theorem open_sect {H : Type} {enc : TypeId × Value → H} {W : World} {r : Reach} {base : Nat} {v : Value} {d : DataW H} {p : List MemPlace} (hok : Value.okWide Try.prog W r base 23 v)
    (h : DataW.Trod enc Try.prog W 0 (fun _ => true) true 23 v d p) : ∃ (q : Option Addr) (n c : Nat) (x : Nat → Sct), v = .slice q n c ∧ n ≤ c ∧ n ≤ 9223372036854775807 ∧ SRow W q n 3 (scC x) := by
  obtain ⟨a0, len, cap, rfl⟩ := okWide_slice Try.underlying23 hok
  obtain ⟨fuel, hf⟩ := h
  obtain ⟨q, m, c, f, he, hmc, hm, hr, hq⟩ := open_rows Try.underlying23 c_sect (by decide) (fun fu cs x h => sect_cells fu cs x h) hf
  simp [Value.cells] at he
  obtain ⟨rfl, rfl, rfl⟩ := he
  have each : ∀ i, ∃ t : Sct, i < len → rowL 3 (f i) = [.int .i64 t.tp, .int .i64 t.ht, .int .i64 t.hd] := fun i => by
    by_cases hi : i < len
    · obtain ⟨t, e⟩ := hq i hi
      exact ⟨t, fun _ => e⟩
    · exact ⟨⟨0, 0, 0⟩, fun h => absurd h hi⟩
  refine ⟨a0, len, cap, fun i => Classical.choose (each i), rfl, hmc, hm, fun hp => ?_⟩
  obtain ⟨b, off, hb, hbl, hc⟩ := hr hp
  refine ⟨b, off, hb, hbl, fun i hi j hj => ?_⟩
  rw [hc i hi j hj]
  have e := Classical.choose_spec (each i) hi
  have g : (rowL 3 (f i))[j]? = some (f i j) := by simp [rowL, hj]
  rw [e] at g
  rcases (show j = 0 ∨ j = 1 ∨ j = 2 by omega) with rfl | rfl | rfl <;> (simp at g; rw [← g]; rfl)
end Go.Proofs.Ytbmkamnjjfmdiaa
