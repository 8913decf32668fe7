/- What the law BoxFills runs, where Resolve (and, for the sanity check, Offsets) answer as the chapter asks; no other condition. -/
import Derived.Test.YtjaapdkhjgolfaaBoAx
import Derived.Test.YtjaapdkhjgolfaaBoEl
import Derived.Test.YtjaapdkhjgolfaaBoF
import Derived.Test.YtjaapdkhjgolfaaSumR
import Derived.BigQuiet
namespace Go.Proofs.Ytjaapdkhjgolfaa
open Go.RowKit Go.Sort
set_option linter.unusedVariables false
set_option linter.unusedSimpArgs false

/-- A block of structs, read and written. -/
def FRow (W : World) (b n k : Nat) (T : TypeId) (F : Nat → Nat → Value) : Prop := ∃ vs, Blk W b T vs ∧ ∀ i, i < n → ∀ j, j < k → vs[i * k + j]? = some (F i j)
theorem FRow.srow {W : World} {b n k : Nat} {T : TypeId} {F : Nat → Nat → Value} (h : FRow W b n k T F) : SRow W (some ⟨b, 0, none⟩) n k F := fun _ => by
  obtain ⟨vs, hb, hc⟩ := h
  exact ⟨b, 0, rfl, hb.lt, fun i hi j hj => by rw [Nat.zero_add]; exact hb.cell _ (hc i hi j hj)⟩
theorem FRow.cell {W : World} {b n k : Nat} {T : TypeId} {F : Nat → Nat → Value} (h : FRow W b n k T F) {i j : Nat} (hi : i < n) (hj : j < k) : W.cell? ⟨b, i * k + j, none⟩ = some (F i j) := by
  obtain ⟨vs, hb, hc⟩ := h
  exact hb.cell _ (hc i hi j hj)
theorem FRow.free {W : World} {b n k : Nat} {T : TypeId} {F : Nat → Nat → Value} (h : FRow W b n k T F) (j : Nat) : W.frozen? ⟨b, j, none⟩ = false := by
  obtain ⟨vs, hb, hc⟩ := h
  exact hb.free j
theorem FRow.set {W : World} {b n k : Nat} {T : TypeId} {F : Nat → Nat → Value} (h : FRow W b n k T F) {i0 j0 : Nat} (hi : i0 < n) (hj : j0 < k) (u : Value) : FRow (W.setCell ⟨b, i0 * k + j0, none⟩ u) b n k T (fun i j => if i = i0 ∧ j = j0 then u else F i j) := by
  obtain ⟨vs, hb, hc⟩ := h
  refine ⟨_, hb.set _ u, fun i hi' j hj' => ?_⟩
  by_cases e : i = i0 ∧ j = j0
  · obtain ⟨rfl, rfl⟩ := e
    have hl := hc i hi j hj
    have hlt : i * k + j < vs.length := by
      rcases Nat.lt_or_ge (i * k + j) vs.length with q | q
      · exact q
      · rw [List.getElem?_eq_none q] at hl; cases hl
    simp [hlt]
  · have hne : i0 * k + j0 ≠ i * k + j := by
      intro q
      rcases Nat.lt_trichotomy i i0 with h1 | h1 | h1
      · have := Nat.mul_le_mul_right k h1; rw [Nat.succ_mul] at this; omega
      · subst h1; exact e ⟨rfl, by omega⟩
      · have := Nat.mul_le_mul_right k h1; rw [Nat.succ_mul] at this; omega
    show _ = some (if i = i0 ∧ j = j0 then u else F i j)
    rw [if_neg e, List.getElem?_set_ne hne]
    exact hc i hi' j hj'
theorem FRow.congr {W : World} {b n k : Nat} {T : TypeId} {F G : Nat → Nat → Value} (h : FRow W b n k T F) (e : ∀ i, i < n → ∀ j, j < k → F i j = G i j) : FRow W b n k T G := by
  obtain ⟨vs, hb, hc⟩ := h
  exact ⟨vs, hb, fun i hi j hj => by rw [← e i hi j hj]; exact hc i hi j hj⟩
theorem FRow.below {W W' : World} {b n k : Nat} {T : TypeId} {F : Nat → Nat → Value} {B : Nat} (h : FRow W b n k T F) (g : Below B W W') (hb : b < B) : FRow W' b n k T F := by
  obtain ⟨vs, hv, hc⟩ := h
  exact ⟨vs, (g.block b hb).trans hv, hc⟩
theorem FRow.but {W W' : World} {b n k sb : Nat} {T : TypeId} {F : Nat → Nat → Value} (h : FRow W b n k T F) (g : But sb W W') (hb : b ≠ sb) : FRow W' b n k T F := by
  obtain ⟨vs, hv, hc⟩ := h
  exact ⟨vs, g.blk hv hb, hc⟩
theorem FRow.lt {W : World} {b n k : Nat} {T : TypeId} {F : Nat → Nat → Value} (h : FRow W b n k T F) : b < W.heap.size := by
  obtain ⟨vs, hb, _⟩ := h
  exact hb.lt
theorem own_frow {w : World} {base n k : Nat} {T : TypeId} {v : Value} {f : Nat → Nat → Value} (h : w.ownsRow base T k v n (flat n k f)) : ∃ q cap, v = .slice q n cap ∧ (0 < n → ∃ b, q = some ⟨b, 0, none⟩ ∧ base ≤ b ∧ FRow w b n k T f) := by
  rcases h.2 with ⟨rfl, rfl⟩ | ⟨g, cap, cur, rfl, hb, hg, hc, hm, hs, ht⟩
  · exact ⟨none, 0, rfl, fun h => absurd h (Nat.lt_irrefl _)⟩
  · refine ⟨some ⟨g, 0, none⟩, cap, rfl, fun hn => ⟨g, rfl, hb, cur.toList, ?_, fun i hi j hj => ?_⟩⟩
    · show w.heap[g]? = _
      rw [hg]
    · have := flat_get (f := f) hi hj
      rw [← ht] at this
      have hlt : i * k + j < n * k := by
        have : (i + 1) * k ≤ n * k := Nat.mul_le_mul_right _ hi
        rw [Nat.succ_mul] at this; omega
      rw [List.getElem?_take, if_pos hlt] at this
      exact this

/-- The elements with no upper limit. -/
def upX (x : Nat → Fx) (k i : Nat) : Fx := if i < k then ⟨(x i).ba, (x i).mn, 1048576, (x i).gr, (x i).sh⟩ else x i
theorem upX_set (x : Nat → Fx) (k : Nat) : ∀ i j, (if i = k ∧ j = 2 then (.int .i64 1048576 : Value) else fxC (upX x k) i j) = fxC (upX x (k + 1)) i j := fun i j => by
  by_cases hi : i = k
  · subst hi
    by_cases hj : j = 2
    · subst hj
      simp [fxC, upX]
    · rw [if_neg (fun h => hj h.2)]
      unfold fxC upX
      simp only [Nat.lt_irrefl, if_false, Nat.lt_succ_self, if_true]
      match j with
      | 0 => rfl
      | 1 => rfl
      | 2 => exact absurd rfl hj
      | 3 => rfl
      | j + 4 => rfl
  · rw [if_neg (fun h => hi h.1)]
    unfold fxC upX
    by_cases h1 : i < k
    · simp [h1, show i < k + 1 by omega]
    · simp [h1, show ¬ i < k + 1 by omega]
def mbF (x : Nat → Fx) (i : Nat) : Int := max (x i).ba (x i).mn
def gpF (gap : Int) (k : Nat) : Int := if k = 0 then 0 else gap * ((k : Int) - 1)
theorem fills_law {av gap : Int} {n : Nat} {x : Nat → Fx} (hx : ∀ i, i < n → okF (x i)) (ha : av ≤ 1048576) (hg : 0 ≤ gap) (hs : sumF (mbF x) n + gpF gap n ≤ av) (hz : sumF (fun i => (x i).gr) n ≠ 0) :
    sumF (resF av gap (upX x n) n) n + gpF gap n = av ∧ 0 < n := by
  have hn : 0 < n := by
    rcases Nat.eq_zero_or_pos n with h | h
    · subst h; exact absurd rfl hz
    · exact h
  have hu : ∀ i, i < n → upX x n i = ⟨(x i).ba, (x i).mn, 1048576, (x i).gr, (x i).sh⟩ := fun i hi => by unfold upX; rw [if_pos hi]
  have hx' : ∀ i, i < n → okF (upX x n i) := fun i hi => by
    rw [hu i hi]
    obtain ⟨h1, h2, h3, h4⟩ := hx i hi
    exact ⟨h1, h2, ⟨by show (0 : Int) ≤ 1048576; omega, Int.le_refl _⟩, h4⟩
  have hm : ∀ i, i < n → (upX x n i).mx = 1048576 := fun i hi => by rw [hu i hi]
  have hnat : sumF (natF (upX x n)) n = sumF (mbF x) n := sum_congr n fun i hi => by
    have := nat_max (hx' i hi) (hm i hi)
    unfold natF mbF
    rw [this, hu i hi]
  have hsp : spcF av gap n = av - gpF gap n := by
    unfold spcF gpF
    rw [if_neg (by omega), if_neg (by omega)]
  have hgp : 0 ≤ gpF gap n := by
    unfold gpF
    rw [if_neg (by omega)]
    exact Int.mul_nonneg hg (by omega)
  have hle : sumF (natF (upX x n)) n ≤ spcF av gap n := by rw [hnat, hsp]; omega
  have hge : ∃ i, i < n ∧ 1 ≤ (upX x n i).gr := by
    apply Classical.byContradiction
    intro h
    apply hz
    have z : ∀ i, i < n → (x i).gr = (fun _ => (0 : Int)) i := fun i hi => by
      have h0 := (hx i hi).2.2.2.1.1
      have h1 : ¬ 1 ≤ (x i).gr := fun q => h ⟨i, hi, by rw [hu i hi]; exact q⟩
      show (x i).gr = 0
      omega
    rw [sum_congr n z]
    clear z h hle hgp hsp hnat hm hx' hu hn hz hs hx
    induction n with
    | zero => rfl
    | succ n ih => simp [sumF, ih]
  have e := fills hx' hm (sp := spcF av gap n) (by rw [hsp]; omega) hle hge
  have hgr : growB (spcF av gap n) (upX x n) n = true := decide_eq_true hle
  refine ⟨?_, hn⟩
  have e2 : sumF (resF av gap (upX x n) n) n = spcF av gap n := by
    rw [← e]
    refine sum_congr n fun i _ => ?_
    unfold resF
    rw [hgr]
  rw [e2, hsp]
  omega
theorem res_bd {av gap : Int} {n : Nat} {x : Nat → Fx} (hx : ∀ i, i < n → okF (x i)) {i : Nat} (hi : i < n) : 0 ≤ resF av gap x n i ∧ resF av gap x n i ≤ 1048576 := it_ok hx n hi
end Go.Proofs.Ytjaapdkhjgolfaa
