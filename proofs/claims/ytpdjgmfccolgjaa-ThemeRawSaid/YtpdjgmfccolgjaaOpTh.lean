/- How arguments that are a theme, a mode or a slice of integers read; no condition. -/
import Derived.Test.YtpdjgmfccolgjaaRows8
import Derived.Test.YtpdjgmfccolgjaaThF
namespace Go.Proofs.Ytpdjgmfccolgjaa
open Go.ChangeShapes Go.WideShapes Go.ChangeAt Go.RowKit Go.Sort
set_option linter.unusedVariables false

theorem c_str : Try.prog.cellsOf 9 = 1 := by kernel_rfl
theorem c_int : Try.prog.cellsOf 3 = 1 := by kernel_rfl
theorem c_bool : Try.prog.cellsOf 4 = 1 := by kernel_rfl
theorem c_tok : Try.prog.cellsOf 29 = 5 := by kernel_rfl
theorem c_toks : Try.prog.cellsOf 22 = 1 := by kernel_rfl
theorem c_thm : Try.prog.cellsOf 24 = 1 := by kernel_rfl
theorem c_mode : Try.prog.cellsOf 26 = 3 := by kernel_rfl
theorem tok_cells {H : Type} {enc : TypeId × Value → H} {W : World} {sp : Nat → Bool} {hd : Bool} (fuel : Nat) (cs : List Value) (x : DataW H × List MemPlace) (h : DataW.trod enc Try.prog W 0 sp hd fuel 29 cs = some x) :
    ∃ t : Tk, cs = [.string t.nm, .int .i64 t.l, .int .i64 t.d, .int .i64 t.h, .int .i64 t.g] ∧ t.nm.size ≤ 9223372036854775807 := by
  obtain ⟨xs, n, rfl, rfl, hl, hlen, hf⟩ := DataW.trod_struct Try.underlying29 h
  rw [c_tok] at hl
  match cs, hl with
  | [u0, u1, u2, u3, u4], _ =>
    have h0 := hf 0 _ rfl
    have h1 := hf 1 _ rfl
    have h2 := hf 2 _ rfl
    have h3 := hf 3 _ rfl
    have h4 := hf 4 _ rfl
    match xs, hlen with
    | [y0, y1, y2, y3, y4], _ =>
      simp only [List.getElem?_cons_zero, List.getElem?_cons_succ] at h0 h1 h2 h3 h4
      obtain ⟨s, e0, -, hs⟩ := DataW.trod_string Try.underlying9 h0
      obtain ⟨k1, e1, -, -⟩ := DataW.trod_int Try.underlying3 h1
      obtain ⟨k2, e2, -, -⟩ := DataW.trod_int Try.underlying3 h2
      obtain ⟨k3, e3, -, -⟩ := DataW.trod_int Try.underlying3 h3
      obtain ⟨k4, e4, -, -⟩ := DataW.trod_int Try.underlying3 h4
      simp [c_str, c_int] at e0 e1 e2 e3 e4
      subst e0 e1 e2 e3 e4
      exact ⟨⟨s, k1, k2, k3, k4⟩, rfl, by simp only [maxLen] at hs; omega⟩
set_option maxRecDepth 100000 in
theorem open_theme {H : Type} {enc : TypeId × Value → H} {W : World} {r : Reach} {base : Nat} {v : Value} {d : DataW H} {p : List MemPlace} (hok : Value.okWide Try.prog W r base 24 v)
    (h : DataW.Trod enc Try.prog W 0 (fun _ => true) true 24 v d p) : ∃ (q : Option Addr) (n c : Nat) (x : Nat → Tk), v = .agg #[.slice q n c] ∧ n ≤ 9223372036854775807 ∧ SRow W q n 5 (tkC x) ∧ ∀ k, k < n → (x k).nm.size ≤ 9223372036854775807 := by
  have hs : ∃ cs, v = .agg cs := by
    have hu := Try.underlying24
    unfold Value.okWide at hok
    split at hok
    · obtain ⟨cs, e, -, -⟩ := hok; exact ⟨cs, e⟩
    · obtain ⟨cs, e, -, -⟩ := hok; exact ⟨cs, e⟩
    · rename_i h1 h2; exact absurd hu (h1 _)
  obtain ⟨cs, rfl⟩ := hs
  obtain ⟨fuel, hf⟩ := h
  obtain ⟨xs, n, rfl, hx, hl, hlen, hff⟩ := DataW.trod_struct Try.underlying24 hf
  rw [c_thm] at hl
  have h0 := hff 0 _ rfl
  have e0 : (Value.agg cs).cells.toList = cs.toList := by simp [Value.cells]
  rw [e0] at hl h0
  have hdt : List.take (Try.prog.cellsOf 22) (List.drop 0 cs.toList) = cs.toList := by rw [c_toks]; simp [List.take_of_length_le (Nat.le_of_eq hl)]
  match xs, hlen with
  | [y0], _ =>
    simp only [List.getElem?_cons_zero] at h0
    have h1 : DataW.trod enc Try.prog W 0 (fun _ => true) true n 22 cs.toList = some y0 := by rw [← hdt]; exact h0
    obtain ⟨q, m, c, f, he, -, hm, hr, hq⟩ := open_rows Try.underlying22 c_tok (by decide) (fun fu cs x h => tok_cells fu cs x h) h1
    have each : ∀ i, ∃ t : Tk, i < m → rowL 5 (f i) = [.string t.nm, .int .i64 t.l, .int .i64 t.d, .int .i64 t.h, .int .i64 t.g] ∧ t.nm.size ≤ 9223372036854775807 := fun i => by
      by_cases hi : i < m
      · obtain ⟨t, h1, h2⟩ := hq i hi; exact ⟨t, fun _ => ⟨h1, h2⟩⟩
      · exact ⟨⟨⟨#[]⟩, 0, 0, 0, 0⟩, fun h => absurd h hi⟩
    obtain ⟨x, hx⟩ : ∃ x : Nat → Tk, ∀ i, i < m → rowL 5 (f i) = [.string (x i).nm, .int .i64 (x i).l, .int .i64 (x i).d, .int .i64 (x i).h, .int .i64 (x i).g] ∧ (x i).nm.size ≤ 9223372036854775807 := ⟨fun i => Classical.choose (each i), fun i hi => Classical.choose_spec (each i) hi⟩
    refine ⟨q, m, c, x, ?_, hm, fun h0 => ?_, fun k hk => (hx k hk).2⟩
    · rw [← he]
    · obtain ⟨b, off, e, hb, hcell⟩ := hr h0
      refine ⟨b, off, e, hb, fun i hi j hj => ?_⟩
      rw [hcell i hi j hj]
      have e1 := (hx i hi).1
      simp only [rowL, List.range, List.range.loop, List.map_cons, List.map_nil, List.cons.injEq, and_true] at e1
      obtain ⟨a0, a1, a2, a3, a4⟩ := e1
      match j, hj with
      | 0, _ => rw [a0]; rfl
      | 1, _ => rw [a1]; rfl
      | 2, _ => rw [a2]; rfl
      | 3, _ => rw [a3]; rfl
      | 4, _ => rw [a4]; rfl
set_option maxRecDepth 100000 in
theorem open_mode {H : Type} {enc : TypeId × Value → H} {W : World} {r : Reach} {base : Nat} {v : Value} {d : DataW H} {p : List MemPlace} (hok : Value.okWide Try.prog W r base 26 v)
    (h : DataW.Trod enc Try.prog W 0 (fun _ => true) true 26 v d p) : ∃ (dk hi : Bool) (sc : Int), v = mdV dk hi sc := by
  have hs : ∃ cs, v = .agg cs := by
    have hu := Try.underlying26
    unfold Value.okWide at hok
    split at hok
    · obtain ⟨cs, e, -, -⟩ := hok; exact ⟨cs, e⟩
    · obtain ⟨cs, e, -, -⟩ := hok; exact ⟨cs, e⟩
    · rename_i h1 h2; exact absurd hu (h1 _)
  obtain ⟨cs, rfl⟩ := hs
  obtain ⟨fuel, hf⟩ := h
  obtain ⟨xs, n, rfl, hx, hl, hlen, hff⟩ := DataW.trod_struct Try.underlying26 hf
  rw [c_mode] at hl
  have h0 := hff 0 _ rfl
  have h1 := hff 1 _ rfl
  have h2 := hff 2 _ rfl
  have e0 : (Value.agg cs).cells.toList = cs.toList := by simp [Value.cells]
  rw [e0] at hl h0 h1 h2
  obtain ⟨cl⟩ := cs
  simp only at hl h0 h1 h2
  match cl, hl with
  | [u0, u1, u2], _ =>
    match xs, hlen with
    | [y0, y1, y2], _ =>
      simp only [List.getElem?_cons_zero, List.getElem?_cons_succ] at h0 h1 h2
      obtain ⟨s, e0, -⟩ := DataW.trod_bool Try.underlying4 h0
      obtain ⟨k1, e1, -⟩ := DataW.trod_bool Try.underlying4 h1
      obtain ⟨k2, e2, -, -⟩ := DataW.trod_int Try.underlying3 h2
      simp [c_bool, c_int] at e0 e1 e2
      subst e0 e1 e2
      exact ⟨s, k1, k2, rfl⟩
end Go.Proofs.Ytpdjgmfccolgjaa
