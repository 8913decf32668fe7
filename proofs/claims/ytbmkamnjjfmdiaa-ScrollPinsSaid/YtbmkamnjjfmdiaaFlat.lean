/- The cells of structs one behind the other; what append has made of them reads as a row of structs; no condition. -/
import Derived.Test.YtbmkamnjjfmdiaaSRow
import Derived.Test.YtbmkamnjjfmdiaaApp
import Derived.OwnWalk
namespace Go.Proofs.Ytbmkamnjjfmdiaa
open Go.RowKit Go.Sort
set_option linter.unusedVariables false
set_option linter.unusedSimpArgs false

/-- The cells of n structs of k cells each. -/
def flat (n k : Nat) (f : Nat → Nat → Value) : List Value := (List.range n).flatMap fun i => (List.range k).map (f i)
theorem flat_zero (k : Nat) (f : Nat → Nat → Value) : flat 0 k f = [] := rfl
theorem flat_succ (n k : Nat) (f : Nat → Nat → Value) : flat (n + 1) k f = flat n k f ++ (List.range k).map (f n) := by simp [flat, List.range_succ]
theorem flat_congr {n k : Nat} {f g : Nat → Nat → Value} (h : ∀ i, i < n → ∀ j, f i j = g i j) : flat n k f = flat n k g := by
  unfold flat
  induction n with
  | zero => rfl
  | succ n ih =>
    rw [List.range_succ, List.flatMap_append, List.flatMap_append, ih fun i hi => h i (by omega)]
    congr 1
    simp only [List.flatMap_cons, List.flatMap_nil, List.append_nil]
    exact List.map_congr_left fun j _ => h n (by omega) j
theorem flat_len (n k : Nat) (f : Nat → Nat → Value) : (flat n k f).length = n * k := by
  induction n with
  | zero => simp [flat]
  | succ n ih => rw [flat_succ, List.length_append, ih]; simp [Nat.succ_mul]
theorem flat_get {n k : Nat} {f : Nat → Nat → Value} : ∀ {i j : Nat}, i < n → j < k → (flat n k f)[i * k + j]? = some (f i j) := by
  induction n with
  | zero => intro i j hi; omega
  | succ n ih =>
    intro i j hi hj
    rw [flat_succ]
    by_cases h : i < n
    · have hlt : i * k + j < n * k := by
        have : (i + 1) * k ≤ n * k := Nat.mul_le_mul_right _ h
        rw [Nat.succ_mul] at this; omega
      rw [List.getElem?_append_left (by rw [flat_len]; exact hlt)]
      exact ih h hj
    · obtain rfl : i = n := by omega
      rw [List.getElem?_append_right (by rw [flat_len]; omega), flat_len]
      rw [show i * k + j - i * k = j by omega, List.getElem?_map, List.getElem?_range hj]
      rfl
/-- What append has made reads as a row of structs. -/
theorem own_srow {w : World} {base n k : Nat} {T : TypeId} {v : Value} {f : Nat → Nat → Value} (h : w.ownsRow base T k v n (flat n k f)) : ∃ q cap, v = .slice q n cap ∧ n ≤ cap ∧ SRow w q n k f := by
  rcases h.2 with ⟨rfl, rfl⟩ | ⟨g, cap, cur, rfl, hb, hg, hc, hm, hs, ht⟩
  · exact ⟨none, 0, rfl, Nat.le_refl _, fun h => absurd h (Nat.lt_irrefl _)⟩
  · refine ⟨some ⟨g, 0, none⟩, cap, rfl, hc, fun hn => ⟨g, 0, rfl, (Array.getElem?_eq_some_iff.1 hg).1, fun i hi j hj => ?_⟩⟩
    have := flat_get (f := f) hi hj
    rw [← ht] at this
    have hlt : i * k + j < n * k := by
      have : (i + 1) * k ≤ n * k := Nat.mul_le_mul_right _ hi
      rw [Nat.succ_mul] at this; omega
    rw [List.getElem?_take, if_pos hlt] at this
    rw [Nat.zero_add, cell_of_row w g _ _ T (0, 0) hg]
    simpa using this

theorem addr_add (g j : Nat) : (Addr.mk g 0 none).add j = ⟨g, j, none⟩ := by
  unfold Addr.add
  by_cases h : j = 0
  · simp [h]
  · simp [h]
end Go.Proofs.Ytbmkamnjjfmdiaa
