/- How an argument that is a slice of structs reads, whatever its elements; no condition. -/
import Derived.Test.YtbmkamnjjfmdiaaSRow
import Derived.Test.YtbmkamnjjfmdiaaOpen
import Derived.ChangeSame
import Derived.ChangeOld
namespace Go.Proofs.Ytbmkamnjjfmdiaa
open Go.ChangeShapes Go.WideShapes Go.ChangeAt Go.RowKit Go.Sort
set_option linter.unusedVariables false

/-- The cells of element i. -/
def rowL (k : Nat) (g : Nat → Value) : List Value := (List.range k).map g
theorem rowL_of {cs : List Value} {k : Nat} {g : Nat → Value} (hl : cs.length = k) (h : ∀ j, j < k → cs[j]? = some (g j)) : cs = rowL k g := by
  apply List.ext_getElem?
  intro j
  by_cases hj : j < k
  · rw [h j hj]; simp [rowL, hj]
  · rw [List.getElem?_eq_none (by omega), List.getElem?_eq_none (by simp [rowL]; omega)]
theorem getD_some {cs : List Value} {j : Nat} {z : Value} (h : j < cs.length) : cs[j]? = some (cs.getD j z) := by
  rw [List.getD_eq_getElem?_getD, List.getElem?_eq_getElem h]; rfl
theorem open_rows {H : Type} {enc : TypeId × Value → H} {P : Program} {W : World} {sp : Nat → Bool} {hd : Bool} {ts te : TypeId} (hts : P.underlying ts = some (.slice te)) {k : Nat} (hc : P.cellsOf te = k) (hk : 0 < k)
    {Q : List Value → Prop} (hel : ∀ fuel cs x, DataW.trod enc P W 0 sp hd fuel te cs = some x → Q cs) {fuel : Nat} {cs : List Value} {x : DataW H × List MemPlace} (h : DataW.trod enc P W 0 sp hd fuel ts cs = some x) :
    ∃ (q : Option Addr) (n c : Nat) (f : Nat → Nat → Value), cs = [.slice q n c] ∧ n ≤ c ∧ n ≤ 9223372036854775807 ∧ SRow W q n k f ∧ ∀ i, i < n → Q (rowL k (f i)) := by
  rcases DataW.trod_slice hts h with ⟨es, -⟩ | ⟨a, len, cap, elems, rest, n', rfl, es, -, hb, hlc, hcm, hel0, hel1, -, -⟩
  · exact ⟨none, 0, 0, fun _ _ => (.bool false), es, Nat.le_refl _, by omega, fun h => absurd h (Nat.lt_irrefl _), fun i hi => absurd hi (by omega)⟩
  · have each : ∀ i, ∃ g : Nat → Value, i < len → (∀ j, j < k → W.cell? ((a.add (i * k)).add j) = some (g j)) ∧ Q (rowL k g) := by
      intro i
      by_cases hi : i < len
      · have hy := hel1 i hi
        rw [List.getElem?_eq_getElem (by omega), hc] at hy
        obtain ⟨ci, hc1, hc2⟩ := Option.bind_eq_some_iff.1 hy
        have hq := hel _ _ _ hc2
        obtain ⟨-, hl, hcell⟩ := World.cells?_some hc1
        refine ⟨fun j => ci.getD j (.bool false), fun _ => ⟨fun j hj => ?_, ?_⟩⟩
        · rw [hcell j hj]; exact getD_some (by omega)
        · have e : ci = rowL k (fun j => ci.getD j (.bool false)) := rowL_of hl fun j hj => getD_some (by omega)
          rw [← e]; exact hq
      · exact ⟨fun _ => (.bool false), fun h => absurd h hi⟩
    obtain ⟨F, hF⟩ : ∃ F : Nat → Nat → Value, ∀ i, i < len → (∀ j, j < k → W.cell? ((a.add (i * k)).add j) = some (F i j)) ∧ Q (rowL k (F i)) := ⟨fun i => Classical.choose (each i), fun i hi => Classical.choose_spec (each i) hi⟩
    refine ⟨some a, len, cap, F, es, hlc, by simp only [maxLen] at hcm; omega, fun hm => ?_, fun i hi => (hF i hi).2⟩
    obtain ⟨b, off, spot⟩ := a
    have h00 := (hF 0 hm).1 0 hk
    have hspot : spot = none := by simpa [Addr.add] using World.cell?_spot h00
    subst hspot
    have hbl : b < W.heap.size := by
      rw [add_plain, add_plain] at h00
      rcases Nat.lt_or_ge b W.heap.size with hl | hl
      · exact hl
      · simp [World.cell?, Array.getElem?_eq_none hl] at h00
    refine ⟨b, off, rfl, hbl, fun i hi j hj => ?_⟩
    have := (hF i hi).1 j hj
    rwa [add_plain, add_plain] at this
end Go.Proofs.Ytbmkamnjjfmdiaa
