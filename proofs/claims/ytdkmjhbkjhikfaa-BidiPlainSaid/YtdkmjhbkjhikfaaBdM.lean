/- A map from integers that the call makes: stored into once, looked up once; no condition. -/
import Derived.Test.YtdkmjhbkjhikfaaBdV
import Derived.Maps.OwnOps
import Derived.Carry
namespace Go.Proofs.Ytdkmjhbkjhikfaa
open Go.RowKit Go.Sort Go.Maps
open Go.ChangeMaps (setBlock)
open Go.WideElems (Fit)
set_option linter.unusedVariables false

theorem law_int : Keyed Try.prog 3 := int_keyed Try.underlying3
theorem zero_int (w : World) : (zeroValue 3).run Try.prog w = .ok (.int .i64 0) w := by kernel_rfl
noncomputable abbrev RU : Value → Option (DataW Unit × List MemPlace) := plainElem Try.prog 3
/-- Block b is a map all of whose keys are 0. -/
def Keys0 (w : World) (b : Nat) : Prop := ∃ es clock, w.heap[b]? = some (.map es clock) ∧ Fit Try.prog 3 RU es clock ∧ ∀ x ∈ es.toList, x.key = .int .i64 0
theorem Keys0.same {w w' : World} {b : Nat} (h : Keys0 w b) (g : w'.heap[b]? = w.heap[b]?) : Keys0 w' b := by obtain ⟨es, cl, h1, h2⟩ := h; exact ⟨es, cl, g.trans h1, h2⟩
theorem Keys0.lt {w : World} {b : Nat} (h : Keys0 w b) : b < w.heap.size := by obtain ⟨es, cl, h1, _⟩ := h; exact (Array.getElem?_eq_some_iff.1 h1).1

theorem wpList_map_first (w : World) {ops : Array Oper} {rest : List Oper} {o : Oper} {a : Act} {Q : Exit → Act → World → Prop} (hg : o.guard = none) (m x v : Operand) (hop : o.op = Op.mapUpdate 94 m x v)
    (b : Nat) (hm : a.eval m = .map (some b)) (hown : w.ownsMap Try.prog 3 RU b 0 (.map [])) (hx : a.eval x = .int .i64 0) (hv : a.eval v = .int .i64 0)
    (hK : ∀ es clock, Keys0 (setBlock w b (.map es clock)) b → wpList Try.prog ops Q rest (a.put o.dst undef) (setBlock w b (.map es clock))) : wpList Try.prog ops Q (o :: rest) a w := by
  refine wpList_plain hg fun K' hK' => ?_
  obtain ⟨es, clock, hb, F, hs, _⟩ := hown
  obtain ⟨es', clock', hrun, F', _, _, _, hall⟩ := fit_store (R' := RU) (kl := .int .i64 0) (key := .int .i64 0) (val := .int .i64 0) (yv := (.lit (.int .i64 0), [])) law_int Try.underlying94 hb F (by unfold maxLen; omega) (fun _ _ _ _ h => h) (keyOf_int_mk Try.underlying3 (by decide)) (plainElem_int Try.underlying3 (by decide))
  unfold Oper.wp
  simp [execOp, hop, hm, hx, hv, hrun, Result.andThen]
  refine hK' _ _ (hK es' clock' ⟨es', clock', ?_, F', fun z hz => ?_⟩)
  · have := (Array.getElem?_eq_some_iff.1 hb).1
    simp [setBlock, this]
  · rcases hall z hz with ⟨h1, _⟩ | ⟨h1, _⟩
    · have h2 : es.toList.length = es.size := by simp
      have h0 : es.toList = [] := List.eq_nil_of_length_eq_zero (by omega)
      rw [h0] at h1; cases h1
    · exact h1
theorem wpList_map_look (w : World) {ops : Array Oper} {rest : List Oper} {o : Oper} {a : Act} {Q : Exit → Act → World → Prop} (hg : o.guard = none) (m x : Operand) (hop : o.op = Op.lookup 94 m x true)
    (b : Nat) (n : Int) (hm : a.eval m = .map (some b)) (hown : Keys0 w b) (hx : a.eval x = .int .i64 n) (hn : n ≠ 0) (hw : (Lit.int .i64 n).wf = true)
    (hK : wpList Try.prog ops Q rest (a.put o.dst (.tuple #[.int .i64 0, .bool false])) w) : wpList Try.prog ops Q (o :: rest) a w := by
  refine wpList_plain hg fun K' hK' => ?_
  obtain ⟨es, clock, hb, F, hk⟩ := hown
  rcases fit_look true law_int Try.underlying94 (zero_int w) hb F (kl := .int .i64 n) (key := .int .i64 n) (keyOf_int_mk Try.underlying3 hw) with ⟨hrun, _⟩ | ⟨e0, y, h1, h2, _⟩
  · unfold Oper.wp
    simp only [if_true] at hrun
    simp [execOp, hop, hm, hx, hrun, Result.andThen]
    exact hK' _ _ hK
  · have := hk e0 h1
    rw [this] at h2
    simp at h2
    omega
end Go.Proofs.Ytdkmjhbkjhikfaa
