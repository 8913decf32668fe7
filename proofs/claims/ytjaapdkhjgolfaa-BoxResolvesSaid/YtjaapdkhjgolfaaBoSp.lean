/- A row of zeros over whose places from 1 on a row is copied; no condition. -/
import Derived.Test.YtjaapdkhjgolfaaBoApp
import Derived.Laws.CopyOwn
namespace Go.Proofs.Ytjaapdkhjgolfaa
open Go.RowKit Go.Sort
theorem splice_ext {n m : Nat} {P E : Nat → Int} (hn : n = m + 1) (h0 : E 0 = 0) (h : ∀ j, j < m → P j = E (j + 1)) : (splice (ints n (fun _ => 0)).toList 1 (vals m P)).toArray = ints n E := by
  have hl : (ints n (fun _ => 0)).toList.length = n := by simp
  have hd : (ints n (fun _ => 0)).toList.drop (1 + (vals m P).length) = [] := List.drop_of_length_le (by rw [hl, vals_len]; omega)
  have hc : ∀ i, i < n → (ints n (fun _ => 0)).toList[i]? = some (.int .i64 0) := fun i hi => by
    have := ints_get (fun _ => 0) hi
    simpa using this
  apply Array.ext_getElem?
  intro j
  rw [List.getElem?_toArray]
  unfold splice
  rw [hd, List.append_nil]
  by_cases hj : j < n
  · rw [ints_get E hj]
    have ht : ((ints n (fun _ => 0)).toList.take 1).length = 1 := by rw [List.length_take, hl]; omega
    cases j with
    | zero =>
      rw [List.getElem?_append_left (by rw [ht]; omega), List.getElem?_take, if_pos (by omega), hc 0 hj, h0]
    | succ j =>
      rw [List.getElem?_append_right (by rw [ht]; omega), ht, Nat.add_sub_cancel, vals_get P (by omega), h j (by omega)]
  · rw [Array.getElem?_eq_none (by simp; omega), List.getElem?_eq_none (by
      rw [List.length_append, List.length_take, hl, vals_len]; omega)]
end Go.Proofs.Ytjaapdkhjgolfaa
