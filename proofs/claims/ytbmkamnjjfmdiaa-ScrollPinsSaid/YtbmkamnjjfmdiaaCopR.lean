/- 'append([]T(nil), l...)' copies rows of structs, nil or not: a step for the walk; no condition. -/
import Derived.Test.YtbmkamnjjfmdiaaFlat
import Derived.Laws.AppendOwn
import Derived.Laws.AppendOwnNone
namespace Go.Proofs.Ytbmkamnjjfmdiaa
open Go.RowKit Go.Sort
set_option linter.unusedVariables false
set_option linter.unusedSimpArgs false

theorem flat_at {n k : Nat} {f : Nat → Nat → Value} {j : Nat} {u : Value} (h : (flat n k f)[j]? = some u) : ∃ i r, i < n ∧ r < k ∧ j = i * k + r ∧ u = f i r := by
  have hj : j < n * k := by
    have := (List.getElem?_eq_some_iff.1 h).1
    rwa [flat_len] at this
  have hk : 0 < k := Nat.pos_of_ne_zero fun e => by subst e; omega
  have hi : j / k < n := Nat.div_lt_of_lt_mul (by rw [Nat.mul_comm]; exact hj)
  have hr : j % k < k := Nat.mod_lt _ hk
  have hd : j = j / k * k + j % k := (Nat.div_add_mod' j k).symm
  refine ⟨j / k, j % k, hi, hr, hd, ?_⟩
  have := flat_get (f := f) hi hr
  rw [← hd, h] at this
  exact Option.some.inj this
theorem flat_one {n k : Nat} {f : Nat → Nat → Value} (h : ∀ i r, (f i r).oneCell' = true) : ∀ u ∈ flat n k f, u.oneCell' = true := by
  intro u hu
  obtain ⟨i, _, hi⟩ := List.mem_flatMap.1 hu
  obtain ⟨r, _, rfl⟩ := List.mem_map.1 hi
  exact h i r
theorem run_append_nils {P : Program} {w : World} (t ty e : TypeId) (i : TypeInfo) (ht : P.underlying t = some (.slice e)) (hi : P.info? e = some i) (c : Nat) :
    (Builtin.append_ #[t, t] ty #[.slice none 0 0, .slice none 0 c]).run P w = .ok (.slice none 0 0) w := by
  simp [Builtin.append_, run_underlying ht, sizeOf, typeInfo, hi, Builtin.lenOf, Builtin.firstCells]
theorem addr_off (g o j : Nat) : (Addr.mk g o none).add j = ⟨g, o + j, none⟩ := by
  unfold Addr.add
  by_cases h : j = 0
  · simp [h]
  · simp [h]
theorem below_own {w w' : World} {row : Option Nat} (hg : w.grownBy w' row) (hrow : ∀ k, row = some k → w.heap.size ≤ k) : Below w.heap.size w w' :=
  ⟨hg.os, hg.tape, hg.output, hg.size, fun k hk => hg.block k hk (fun e => by have := hrow k e.symm; omega)⟩
theorem SRow.other {w : World} {q : Option Addr} {n k : Nat} {f : Nat → Nat → Value} (h : SRow w q n k f) {p : Addr} (hne : ∀ ad, q = some ad → ad.block ≠ p.block) (v : Value) : SRow (w.setCell p v) q n k f := fun hn => by
  obtain ⟨b, off, e, hb, hc⟩ := h hn
  have hn := hne _ e
  refine ⟨b, off, e, by rw [show (w.setCell p v).heap.size = w.heap.size by simp [World.setCell]]; exact hb, fun i hi j hj => ?_⟩
  rw [← hc i hi j hj]
  unfold World.cell?
  rw [heap_setCell_other w p b v hn]
theorem wpList_copy_rows {P : Program} {w : World} {ops : Array Oper} {rest : List Oper} {o : Oper} {a : Act} {Q : Exit → Act → World → Prop} (hgd : o.guard = none) (x : Operand) (t : TypeId)
    (ho : o.op = .call { callee := .builtin .append, args := #[.const (.slice none 0 0), x], argTypes := #[t, t] })
    (e : TypeId) (i : TypeInfo) (z : Value) (size bytes : Nat) (ht : P.underlying t = some (.slice e)) (hi : P.info? e = some i) (hz : i.zero = some z)
    (hsize : i.size = size) (hby : i.bytes = bytes) (hzs : z.cells.size = size) (hsz : 0 < size)
    (p : Option Addr) (m c : Nat) (f : Nat → Nat → Value) (hx : a.eval x = .slice p m c) (hp : SRow w p m size f) (h1 : ∀ i r, (f i r).oneCell' = true) (hm : m ≤ maxLen) (hmb : m * bytes ≤ 140737488355328)
    (h : ∀ q c' w', m ≤ c' → SRow w' q m size f → (∀ ad, q = some ad → w.heap.size ≤ ad.block) → Below w.heap.size w w' → wpList P ops Q rest (a.put o.dst (.slice q m c')) w') : wpList P ops Q (o :: rest) a w := by
  cases p with
  | none =>
    have h0 : m = 0 := by
      rcases Nat.eq_zero_or_pos m with e0 | e0
      · exact e0
      · obtain ⟨_, _, q, _⟩ := hp e0
        cases q
    subst h0
    have H := h none 0 w (Nat.le_refl _) (fun q => absurd q (Nat.lt_irrefl _)) (fun _ q => by cases q) (Below.refl _ _)
    refine wpList_plain hgd fun K hK => ?_
    have hrun := run_append_nils (P := P) (w := w) t o.type e i ht hi c
    have hs : a.eval (.const (.slice none 0 0)) = .slice none 0 0 := rfl
    unfold Oper.wp
    simp [execOp, ho, resolve, invoke, builtin, hs, hx, hrun, Result.andThen]
    exact hK _ _ H
  | some ad =>
    have ON : w.ownsRow w.heap.size e size (.slice none 0 0) 0 [] := World.ownsRow_nil _ _ _ _
    refine wpList_append_own w hgd (.const (.slice none 0 0)) x t ho w.heap.size e i z size bytes ht hi hz hsize hby hzs hsz (.slice none 0 0) 0 [] rfl ON ad m c (flat m size f) hx (flat_len _ _ _) ?_ (flat_one h1) (by omega) (by rw [Nat.zero_add]; exact hmb) (Nat.le_refl _) ?_
    · intro j u hj
      obtain ⟨i', r, hi', hr, rfl, rfl⟩ := flat_at hj
      obtain ⟨b, off, q, _, hc⟩ := hp (Nat.lt_of_le_of_lt (Nat.zero_le _) hi')
      cases q
      rw [addr_off, ← Nat.add_assoc]
      exact hc i' hi' r hr
    · intro v' w' hO hg _
      rw [Nat.zero_add, List.nil_append] at hO
      obtain ⟨q, c', rfl, hc', hS⟩ := own_srow hO
      exact h q c' w' hc' hS (fun ad e => by subst e; exact own_lt hO _ rfl) (below_own hg (own_lt ON))
end Go.Proofs.Ytbmkamnjjfmdiaa
