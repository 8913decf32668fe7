/- How arguments that are slices of tracks and of extents read; no condition. -/
import Derived.Test.YtdoenkngmgclmaaRows8
import Derived.Test.YtdoenkngmgclmaaGdM
namespace Go.Proofs.Ytdoenkngmgclmaa
open Go.ChangeShapes Go.WideShapes Go.ChangeAt Go.RowKit Go.Sort
set_option linter.unusedVariables false

theorem c_intG : Try.prog.cellsOf 3 = 1 := by kernel_rfl
theorem c_track : Try.prog.cellsOf 42 = 2 := by kernel_rfl
theorem track_cells {H : Type} {enc : TypeId × Value → H} {W : World} {sp : Nat → Bool} {hd : Bool} (fuel : Nat) (cs : List Value) (x : DataW H × List MemPlace) (h : DataW.trod enc Try.prog W 0 sp hd fuel 42 cs = some x) :
    ∃ t : Tk, cs = [.int .i64 t.kd, .int .i64 t.nn] := by
  obtain ⟨xs, n, rfl, rfl, hl, hlen, hf⟩ := DataW.trod_struct Try.underlying42 h
  rw [c_track] at hl
  match cs, hl with
  | [u0, u1], _ =>
    have h0 := hf 0 _ rfl
    have h1 := hf 1 _ rfl
    match xs, hlen with
    | [y0, y1], _ =>
      simp only [List.getElem?_cons_zero, List.getElem?_cons_succ] at h0 h1
      obtain ⟨k0, e0, -, -⟩ := DataW.trod_int Try.underlying3 h0
      obtain ⟨k1, e1, -, -⟩ := DataW.trod_int Try.underlying3 h1
      simp [c_intG] at e0 e1
      subst e0 e1
      exact ⟨⟨k0, k1⟩, rfl⟩
set_option maxRecDepth 100000 in
theorem open_track {H : Type} {enc : TypeId × Value → H} {W : World} {r : Reach} {base : Nat} {v : Value} {d : DataW H} {p : List MemPlace} (hok : Value.okWide Try.prog W r base 29 v)
    (h : DataW.Trod enc Try.prog W 0 (fun _ => true) true 29 v d p) : ∃ (q : Option Addr) (n c : Nat) (x : Nat → Tk), v = .slice q n c ∧ n ≤ c ∧ n ≤ 9223372036854775807 ∧ SRow W q n 2 (trC x) := by
  obtain ⟨a0, len, cap, rfl⟩ := okWide_slice Try.underlying29 hok
  obtain ⟨fuel, hf⟩ := h
  obtain ⟨q, m, c, f, he, hmc, hm, hr, hq⟩ := open_rows Try.underlying29 c_track (by decide) (fun fu cs x h => track_cells fu cs x h) hf
  simp [Value.cells] at he
  obtain ⟨rfl, rfl, rfl⟩ := he
  have each : ∀ i, ∃ t : Tk, i < len → rowL 2 (f i) = [.int .i64 t.kd, .int .i64 t.nn] := fun i => by
    by_cases hi : i < len
    · obtain ⟨t, e⟩ := hq i hi
      exact ⟨t, fun _ => e⟩
    · exact ⟨⟨0, 0⟩, fun h => absurd h hi⟩
  refine ⟨a0, len, cap, fun i => Classical.choose (each i), rfl, hmc, hm, fun hp => ?_⟩
  obtain ⟨b, off, hb, hbl, hc⟩ := hr hp
  refine ⟨b, off, hb, hbl, fun i hi j hj => ?_⟩
  rw [hc i hi j hj]
  have e := Classical.choose_spec (each i) hi
  have g : (rowL 2 (f i))[j]? = some (f i j) := by simp [rowL, hj]
  rw [e] at g
  rcases (show j = 0 ∨ j = 1 by omega) with rfl | rfl <;> (simp at g; rw [← g]; rfl)
theorem c_extent : Try.prog.cellsOf 44 = 4 := by kernel_rfl
theorem extent_cells {H : Type} {enc : TypeId × Value → H} {W : World} {sp : Nat → Bool} {hd : Bool} (fuel : Nat) (cs : List Value) (x : DataW H × List MemPlace) (h : DataW.trod enc Try.prog W 0 sp hd fuel 44 cs = some x) :
    ∃ t : It, cs = [.int .i64 t.at_, .int .i64 t.sp, .int .i64 t.mn, .int .i64 t.mx] := by
  obtain ⟨xs, n, rfl, rfl, hl, hlen, hf⟩ := DataW.trod_struct Try.underlying44 h
  rw [c_extent] at hl
  match cs, hl with
  | [u0, u1, u2, u3], _ =>
    have h0 := hf 0 _ rfl
    have h1 := hf 1 _ rfl
    have h2 := hf 2 _ rfl
    have h3 := hf 3 _ rfl
    match xs, hlen with
    | [y0, y1, y2, y3], _ =>
      simp only [List.getElem?_cons_zero, List.getElem?_cons_succ] at h0 h1 h2 h3
      obtain ⟨k0, e0, -, -⟩ := DataW.trod_int Try.underlying3 h0
      obtain ⟨k1, e1, -, -⟩ := DataW.trod_int Try.underlying3 h1
      obtain ⟨k2, e2, -, -⟩ := DataW.trod_int Try.underlying3 h2
      obtain ⟨k3, e3, -, -⟩ := DataW.trod_int Try.underlying3 h3
      simp [c_intG] at e0 e1 e2 e3
      subst e0 e1 e2 e3
      exact ⟨⟨k0, k1, k2, k3⟩, rfl⟩
set_option maxRecDepth 100000 in
theorem open_extent {H : Type} {enc : TypeId × Value → H} {W : World} {r : Reach} {base : Nat} {v : Value} {d : DataW H} {p : List MemPlace} (hok : Value.okWide Try.prog W r base 30 v)
    (h : DataW.Trod enc Try.prog W 0 (fun _ => true) true 30 v d p) : ∃ (q : Option Addr) (n c : Nat) (x : Nat → It), v = .slice q n c ∧ n ≤ c ∧ n ≤ 9223372036854775807 ∧ SRow W q n 4 (itC x) := by
  obtain ⟨a0, len, cap, rfl⟩ := okWide_slice Try.underlying30 hok
  obtain ⟨fuel, hf⟩ := h
  obtain ⟨q, m, c, f, he, hmc, hm, hr, hq⟩ := open_rows Try.underlying30 c_extent (by decide) (fun fu cs x h => extent_cells fu cs x h) hf
  simp [Value.cells] at he
  obtain ⟨rfl, rfl, rfl⟩ := he
  have each : ∀ i, ∃ t : It, i < len → rowL 4 (f i) = [.int .i64 t.at_, .int .i64 t.sp, .int .i64 t.mn, .int .i64 t.mx] := fun i => by
    by_cases hi : i < len
    · obtain ⟨t, e⟩ := hq i hi
      exact ⟨t, fun _ => e⟩
    · exact ⟨⟨0, 0, 0, 0⟩, fun h => absurd h hi⟩
  refine ⟨a0, len, cap, fun i => Classical.choose (each i), rfl, hmc, hm, fun hp => ?_⟩
  obtain ⟨b, off, hb, hbl, hc⟩ := hr hp
  refine ⟨b, off, hb, hbl, fun i hi j hj => ?_⟩
  rw [hc i hi j hj]
  have e := Classical.choose_spec (each i) hi
  have g : (rowL 4 (f i))[j]? = some (f i j) := by simp [rowL, hj]
  rw [e] at g
  rcases (show j = 0 ∨ j = 1 ∨ j = 2 ∨ j = 3 by omega) with rfl | rfl | rfl | rfl <;> (simp at g; rw [← g]; rfl)
end Go.Proofs.Ytdoenkngmgclmaa
