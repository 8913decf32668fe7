/- Types that hold slices of types: trees that lie in a world, opened from the reading of an argument; no condition. -/
import Derived.Test.YtnhhmndnmkkhlaaDoorExR
import Derived.Test.YtnhhmndnmkkhlaaDoorOpen
import Derived.ChangeSame
import Derived.ChangeOld
namespace Go.Proofs.YtnhhmndnmkkhlaaDoor
open Go.ChangeShapes Go.WideShapes Go.ChangeAt Go.RowKit Go.Sort
set_option linter.unusedVariables false

/-- A type: its kind, the number of types that it holds, and these. -/
inductive Ty where
  | nil
  | mk (k : Int) (m : Nat) (f : Nat → Ty)
/-- The type lies in the world as this value, in blocks of which Q holds. -/
def TyIn (W : World) (Q : Nat → Prop) : Ty → Value → Prop
  | .nil, _ => False
  | .mk k m f, v => (-9223372036854775808 ≤ k ∧ k ≤ 9223372036854775807) ∧ ∃ p c, v = .agg #[.int .i64 k, .slice p m c] ∧ (m ≤ c ∧ c ≤ 9223372036854775807) ∧
      (0 < m → ∃ b off, p = some ⟨b, off, none⟩ ∧ b < W.heap.size ∧ Q b ∧ ∀ i, i < m → ∃ u s, W.cell? ⟨b, off + i * 2, none⟩ = some u ∧ W.cell? ⟨b, off + i * 2 + 1, none⟩ = some s ∧ TyIn W Q (f i) (.agg #[u, s]))
/-- The blocks of which Q holds stay. -/
structure Kept (Q : Nat → Prop) (W W' : World) : Prop where
  size : W.heap.size ≤ W'.heap.size
  keep : ∀ b, Q b → b < W.heap.size → W'.heap[b]? = W.heap[b]?
theorem cell_of_heap {W W' : World} {b o : Nat} (h : W'.heap[b]? = W.heap[b]?) : W'.cell? ⟨b, o, none⟩ = W.cell? ⟨b, o, none⟩ := by simp only [World.cell?, h]
theorem Kept.refl (Q : Nat → Prop) (W : World) : Kept Q W W := ⟨Nat.le_refl _, fun _ _ _ => rfl⟩
theorem Kept.of_grew {Q : Nat → Prop} {W W' : World} (g : Grew W W') : Kept Q W W' := ⟨g.size, fun b _ hb => g.1.block b hb⟩
theorem Kept.trans {Q : Nat → Prop} {a b c : World} (h : Kept Q a b) (g : Kept Q b c) : Kept Q a c := ⟨Nat.le_trans h.size g.size, fun x hx hb => (g.keep x hx (Nat.lt_of_lt_of_le hb h.size)).trans (h.keep x hx hb)⟩
theorem Kept.set {Q : Nat → Prop} {W W' : World} (h : Kept Q W W') {x : Nat} (hx : ¬ Q x ∨ W.heap.size ≤ x) (o : Nat) (u : Value) : Kept Q W (W'.setCell ⟨x, o, none⟩ u) :=
  ⟨by simpa using h.size, fun b hb hl => (heap_setCell_other W' ⟨x, o, none⟩ b u (by rintro rfl; rcases hx with hx | hx; exact hx hb; omega)).trans (h.keep b hb hl)⟩
theorem Kept.alloc {Q : Nat → Prop} {W W' : World} (h : Kept Q W W') (o : Obj) : Kept Q W (W'.alloc o) := h.trans (Kept.of_grew ((Grew.refl W').alloc o))
theorem TyIn.kept {W W' : World} {Q : Nat → Prop} (g : Kept Q W W') : ∀ {t : Ty} {v : Value}, TyIn W Q t v → TyIn W' Q t v
  | .mk k m f, v, ⟨hk, p, c, hv, hc, h⟩ => ⟨hk, p, c, hv, hc, fun hm => by
      obtain ⟨b, off, hp, hb, hq, hcs⟩ := h hm
      refine ⟨b, off, hp, Nat.lt_of_lt_of_le hb g.size, hq, fun i hi => ?_⟩
      obtain ⟨u, s, h1, h2, h3⟩ := hcs i hi
      exact ⟨u, s, (cell_of_heap (g.keep b hq hb)).trans h1, (cell_of_heap (g.keep b hq hb)).trans h2, TyIn.kept g h3⟩⟩
theorem TyIn.grew {W W' : World} {Q : Nat → Prop} {t : Ty} {v : Value} (h : TyIn W Q t v) (g : Grew W W') : TyIn W' Q t v := TyIn.kept (Kept.of_grew g) h
theorem TyIn.weak {W : World} {Q Q' : Nat → Prop} (hQ : ∀ b, Q b → Q' b) : ∀ {t : Ty} {v : Value}, TyIn W Q t v → TyIn W Q' t v
  | .mk k m f, v, ⟨hk, p, c, hv, hc, h⟩ => ⟨hk, p, c, hv, hc, fun hm => by
      obtain ⟨b, off, hp, hb, hq, hcs⟩ := h hm
      refine ⟨b, off, hp, hb, hQ b hq, fun i hi => ?_⟩
      obtain ⟨u, s, h1, h2, h3⟩ := hcs i hi
      exact ⟨u, s, h1, h2, TyIn.weak hQ h3⟩⟩
abbrev tyV (k : Int) (p : Option Addr) (m c : Nat) : Value := .agg #[.int .i64 k, .slice p m c]
/-- The root of a type's value. -/
theorem TyIn.root {W : World} {Q : Nat → Prop} {t : Ty} {v : Value} (h : TyIn W Q t v) : ∃ k m f p c, t = .mk k m f ∧ v = tyV k p m c := by
  cases t with
  | nil => exact h.elim
  | mk k m f => obtain ⟨_, p, c, rfl, _⟩ := h; exact ⟨k, m, f, p, c, rfl, rfl⟩
theorem TyIn.leaf {W : World} {Q : Nat → Prop} {k : Int} {f : Nat → Ty} (hk : -9223372036854775808 ≤ k ∧ k ≤ 9223372036854775807) : TyIn W Q (.mk k 0 f) (tyV k none 0 0) :=
  ⟨hk, none, 0, rfl, ⟨Nat.le_refl _, by omega⟩, fun h => absurd h (by omega)⟩
/-- An element of a type that lies in the world. -/
theorem TyIn.kid {W : World} {Q : Nat → Prop} {k : Int} {m c : Nat} {f : Nat → Ty} {p : Option Addr} (h : TyIn W Q (.mk k m f) (tyV k p m c)) {i : Nat} (hi : i < m) :
    ∃ b off k' m' f' p' c', p = some ⟨b, off, none⟩ ∧ b < W.heap.size ∧ Q b ∧ f i = .mk k' m' f' ∧ W.cell? ⟨b, off + i * 2, none⟩ = some (.int .i64 k') ∧ W.cell? ⟨b, off + i * 2 + 1, none⟩ = some (.slice p' m' c') ∧ TyIn W Q (f i) (tyV k' p' m' c') := by
  obtain ⟨_, p1, c1, e, _, h⟩ := h
  simp only [Value.agg.injEq, Array.mk.injEq, List.cons.injEq, Value.slice.injEq, and_true, true_and] at e
  obtain ⟨rfl, rfl⟩ := e
  obtain ⟨b, off, hp, hb, hq, hcs⟩ := h (by omega)
  obtain ⟨u, s, h1, h2, h3⟩ := hcs i hi
  obtain ⟨k', m', f', p', c', e1, e2⟩ := h3.root
  simp only [Value.agg.injEq, Array.mk.injEq, List.cons.injEq, and_true] at e2
  obtain ⟨rfl, rfl⟩ := e2
  exact ⟨b, off, k', m', f', p', c', hp, hb, hq, e1, h1, h2, h3⟩
def Ty.knd : Ty → Int
  | .nil => 0
  | .mk k _ _ => k
/-- What it holds has kinds. -/
def NzC : Ty → Prop
  | .nil => True
  | .mk _ m f => ∀ i, i < m → (f i).knd ≠ 0 ∧ NzC (f i)
/-- A box that holds the zero type is no part of it. -/
theorem TyIn.apart {W : World} {Q : Nat → Prop} {x : Nat} {T : TypeId} (hx : Blk W x T [.int .i64 0, .slice none 0 0]) : ∀ {t : Ty} {v : Value}, NzC t → TyIn W Q t v → TyIn W (fun b => Q b ∧ b ≠ x) t v
  | .mk k m f, v, hn, ⟨hk, p, c, hv, hc, h⟩ => ⟨hk, p, c, hv, hc, fun hm => by
      obtain ⟨b, off, hp, hb, hq, hcs⟩ := h hm
      refine ⟨b, off, hp, hb, ⟨hq, ?_⟩, fun i hi => ?_⟩
      · rintro rfl
        obtain ⟨u, s, h1, h2, h3⟩ := hcs 0 hm
        obtain ⟨k', m', f', p', c', e1, e2⟩ := h3.root
        simp only [Value.agg.injEq, Array.mk.injEq, List.cons.injEq, and_true] at e2
        obtain ⟨rfl, rfl⟩ := e2
        have hk0 := (hn 0 hm).1
        rw [e1] at hk0
        simp only [Ty.knd] at hk0
        simp [World.cell?, show W.heap[b]? = _ from hx] at h1
        rcases off with _ | _ | off <;> simp at h1
        exact hk0 h1.symm
      · obtain ⟨u, s, h1, h2, h3⟩ := hcs i hi
        exact ⟨u, s, h1, h2, TyIn.apart hx (hn i hi).2 h3⟩⟩

theorem cells_ty : Tryd.prog.cellsOf 28 = 2 := by kernel_rfl
theorem cells_i : Tryd.prog.cellsOf 3 = 1 := by kernel_rfl
theorem cells_tys : Tryd.prog.cellsOf 26 = 1 := by kernel_rfl
set_option maxRecDepth 100000 in
theorem open_ty {H : Type} {enc : TypeId × Value → H} {W : World} {sp : Nat → Bool} {hd : Bool} : ∀ (fuel : Nat) (cs : List Value) (x : DataW H × List MemPlace), DataW.trod enc Tryd.prog W 0 sp hd fuel 28 cs = some x →
    ∃ t : Ty, TyIn W (fun _ => True) t (.agg cs.toArray) ∧ ∃ u s, cs = [u, s] := by
  intro fuel
  induction fuel using Nat.strongRecOn with
  | _ fuel ih =>
    intro cs x h
    obtain ⟨xs, n, rfl, rfl, hl, hlen, hf⟩ := DataW.trod_struct Tryd.underlying28 h
    rw [cells_ty] at hl
    match cs, hl with
    | [u, s], _ =>
      have h0 := hf 0 _ rfl
      have h1 := hf 1 _ rfl
      match xs, hlen with
      | [y0, y1], _ =>
        simp only [List.getElem?_cons_zero, List.getElem?_cons_succ] at h0 h1
        obtain ⟨k, e0, -, hwf⟩ := DataW.trod_int Tryd.underlying3 h0
        obtain rfl : u = .int .i64 k := by simpa [cells_i] using e0
        have e1 : IntKind.i64.min = -9223372036854775808 := rfl
        have e2 : IntKind.i64.max = 9223372036854775807 := rfl
        simp only [Lit.wf, e1, e2, Bool.and_eq_true, decide_eq_true_eq] at hwf
        rcases DataW.trod_slice Tryd.underlying26 h1 with ⟨es, -⟩ | ⟨a, len, cap, elems, rest, n', rfl, es, -, hb, hlc, hcm, hel0, hel, -, -⟩
        · obtain rfl : s = .slice none 0 0 := by simpa [cells_tys] using es
          exact ⟨.mk k 0 fun _ => .nil, TyIn.leaf hwf, _, _, rfl⟩
        · obtain rfl : s = .slice (some a) len cap := by simpa [cells_tys] using es
          have each : ∀ i, ∃ t : Ty, i < len → ∃ u s, W.cell? (a.add (i * 2)) = some u ∧ W.cell? ((a.add (i * 2)).add 1) = some s ∧ TyIn W (fun _ => True) t (.agg #[u, s]) := by
            intro i
            by_cases hi : i < len
            · have hy := hel i hi
              rw [List.getElem?_eq_getElem (by omega), cells_ty] at hy
              obtain ⟨ci, hc1, hc2⟩ := Option.bind_eq_some_iff.1 hy
              obtain ⟨t, ht, u', s', rfl⟩ := ih n' (by omega) _ _ hc2
              obtain ⟨-, -, hcell⟩ := World.cells?_some hc1
              refine ⟨t, fun _ => ⟨u', s', ?_, ?_, ht⟩⟩
              · have := hcell 0 (by omega)
                simpa [Addr.add] using this
              · have := hcell 1 (by omega)
                simpa using this
            · exact ⟨.nil, fun h => absurd h hi⟩
          refine ⟨.mk k len fun i => Classical.choose (each i), ⟨hwf, some a, cap, rfl, ⟨hlc, hcm⟩, fun hm => ?_⟩, _, _, rfl⟩
          obtain ⟨b, off, spot⟩ := a
          obtain ⟨u0, s0, h00, -, -⟩ := Classical.choose_spec (each 0) hm
          have hspot : spot = none := by simpa [Addr.add] using World.cell?_spot h00
          subst hspot
          have hbl : b < W.heap.size := by
            rw [add_plain] at h00
            rcases Nat.lt_or_ge b W.heap.size with hl | hl
            · exact hl
            · simp [World.cell?, Array.getElem?_eq_none hl] at h00
          refine ⟨b, off, rfl, hbl, trivial, fun i hi => ?_⟩
          obtain ⟨u1, s1, h01, h02, h03⟩ := Classical.choose_spec (each i) hi
          rw [add_plain] at h01 h02
          rw [add_plain] at h02
          exact ⟨u1, s1, h01, h02, h03⟩
end Go.Proofs.YtnhhmndnmkkhlaaDoor
