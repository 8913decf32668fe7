/- How an argument that is a slice of integers or a type reads, with the bound on its length that the reach gives; no condition. -/
import Derived.Test.YtnhhmndnmkkhlaaDoorExTj
import Derived.Test.YtnhhmndnmkkhlaaDoorOpen
import Derived.SizedLaws
namespace Go.Proofs.YtnhhmndnmkkhlaaDoor
open Go.ChangeShapes Go.WideShapes Go.ChangeAt Go.RowKit
theorem cells_int : Tryd.prog.cellsOf 3 = 1 := by kernel_rfl
theorem bytes_int : Tryd.prog.bytesOf 3 = 8 := by kernel_rfl
set_option maxRecDepth 100000 in
theorem open_slice {H : Type} {enc : TypeId × Value → H} {W : World} {r : Reach} {base : Nat} {v : Value} {d : DataW H} {p : List MemPlace} (hok : Value.okWide Tryd.prog W r base 36 v)
    (h : DataW.Trod enc Tryd.prog W 0 (fun _ => true) true 36 v d p) (hw : ∀ n ∈ d.weights Tryd.prog 36, n ≤ reachBytes) : ∃ (q : Option Addr) (n c : Nat) (f : Nat → Int), v = .slice q n c ∧ n ≤ c ∧ n ≤ 17592186044416 ∧ Reads W q n f ∧ ∀ k, -9223372036854775808 ≤ f k ∧ f k ≤ 9223372036854775807 := by
  obtain ⟨a0, len, cap, rfl⟩ := okWide_slice Tryd.underlying36 hok
  obtain ⟨fuel, hf⟩ := h
  rcases open_ints Tryd.underlying36 Tryd.underlying3 cells_int hf with ⟨hcs, _⟩ | ⟨a, len', cap', zs, hcs, _, hl, hm, hz, hx, hcell, hwz⟩
  · simp [Value.cells] at hcs
    obtain ⟨rfl, rfl, rfl⟩ := hcs
    exact ⟨none, 0, 0, fun _ => 0, rfl, Nat.le_refl _, by omega, fun h => absurd h (Nat.lt_irrefl _), fun _ => ⟨by show (_ : Int) ≤ 0; omega, by show (0 : Int) ≤ _; omega⟩⟩
  · simp [Value.cells] at hcs
    obtain ⟨rfl, rfl, rfl⟩ := hcs
    simp only [if_true] at hz
    have hm' : cap ≤ 9223372036854775807 := hm
    have hsz : (((lits .i64 (zs.take len) : List (DataW H))).length + (lits .i64 (zs.drop len) : List (DataW H)).length) * Tryd.prog.bytesOf 3 ≤ reachBytes := by
      simp only [Prod.mk.injEq] at hx
      refine hw _ ?_
      rw [hx.1]
      simp [DataW.weights, Tryd.underlying36]
    rw [bytes_int] at hsz
    have hln : len ≤ 17592186044416 := by
      have h1 : reachBytes < 140737488355328 := by decide
      have e1 : (lits .i64 (zs.take len) : List (DataW H)).length = len := by
        simp [lits]; omega
      omega
    refine ⟨some a, len, cap, fun k => zs.getD k 0, rfl, hl, hln, fun hp => ?_, fun k => ?_⟩
    · obtain ⟨b, off, rfl, hc⟩ := ints_at hcell (by omega)
      exact ⟨b, off, rfl, fun k hk => hc k (by omega)⟩
    · by_cases hk : k < zs.length
      · have hw := hwz (zs.getD k 0) (by rw [List.getD_eq_getElem?_getD, List.getElem?_eq_getElem hk]; exact List.getElem_mem hk)
        have e1 : IntKind.i64.min = -9223372036854775808 := rfl
        have e2 : IntKind.i64.max = 9223372036854775807 := rfl
        simp only [Lit.wf, e1, e2, Bool.and_eq_true, decide_eq_true_eq] at hw
        exact hw
      · have : zs.getD k 0 = 0 := by rw [List.getD_eq_getElem?_getD, List.getElem?_eq_none (by omega)]; rfl
        show -9223372036854775808 ≤ zs.getD k 0 ∧ zs.getD k 0 ≤ 9223372036854775807
        omega
set_option maxRecDepth 100000 in
theorem open_tyv {H : Type} {enc : TypeId × Value → H} {W : World} {r : Reach} {base : Nat} {v : Value} {d : DataW H} {p : List MemPlace} (hok : Value.okWide Tryd.prog W r base 28 v)
    (h : DataW.Trod enc Tryd.prog W 0 (fun _ => true) true 28 v d p) : ∃ t : Ty, TyIn W AnyB t v := by
  have hs : ∃ cs, v = .agg cs := by
    have hu := Tryd.underlying28
    unfold Value.okWide at hok
    split at hok
    · obtain ⟨cs, e, -, -⟩ := hok; exact ⟨cs, e⟩
    · obtain ⟨cs, e, -, -⟩ := hok; exact ⟨cs, e⟩
    · rename_i h1 h2; exact absurd hu (h1 _)
  obtain ⟨cs, rfl⟩ := hs
  obtain ⟨fuel, hf⟩ := h
  obtain ⟨t, ht, -⟩ := open_ty fuel _ _ hf
  refine ⟨t, ?_⟩
  simpa [Value.cells] using ht
end Go.Proofs.YtnhhmndnmkkhlaaDoor
