/- append of a row of ints to a slice of one's own; Grow at nil; Concat of two rows of ints; list. -/
import Derived.Test.YtnhhmndnmkkhlaaDoorExLc
import Derived.Lib.AppendZeros
import Derived.OwnWalk
namespace Go.Proofs.YtnhhmndnmkkhlaaDoor
open Go.RowKit Go.Sort
set_option linter.unusedVariables false
set_option linter.unusedSimpArgs false

theorem run_append_none {P : Program} (w : World) (base : Nat) (t ty e : TypeId) (i : TypeInfo) (size : Nat) (ht : P.underlying t = some (.slice e)) (hi : P.info? e = some i)
    (v : Value) (n : Nat) (xs : List Value) (hown : w.ownsRow base e size v n xs) (c : Nat) :
    (Builtin.append_ #[t, t] ty #[v, .slice none 0 c]).run P w = .ok v w := by
  rcases hown.2 with ⟨rfl, rfl⟩ | ⟨g, cap, cur, rfl, hbg, hg, hnc, hcm, hcs, htake⟩
  · simp [Builtin.append_, run_underlying ht, sizeOf, typeInfo, hi, Builtin.lenOf, Builtin.firstCells]
  · simp [Builtin.append_, run_underlying ht, sizeOf, typeInfo, hi, Builtin.lenOf, Builtin.firstCells, hnc, storeCells]
/-- The cells of a row, one after the other. -/
theorem Row.news {W : World} {B m b off : Nat} {g : Nat → Int} (h : Row W B (some ⟨b, off, none⟩) m (fun i => nd 1 (g i))) : ∀ j u, (vcs g m)[j]? = some u → W.cell? ((⟨b, off, none⟩ : Addr).add j) = some u := by
  intro j u hj
  have hjl : j < m * 4 := by
    rcases Nat.lt_or_ge j (m * 4) with h1 | h1
    · exact h1
    · rw [List.getElem?_eq_none (by rw [vcs_len]; omega)] at hj; cases hj
  obtain ⟨b', off', hp, hb, hc⟩ := h (by omega)
  simp only [Option.some.injEq, Addr.mk.injEq, and_true] at hp
  obtain ⟨rfl, rfl⟩ := hp
  obtain ⟨h0, h1, h2, h3⟩ := hc (j / 4) (by omega)
  have e : j = j / 4 * 4 + j % 4 := by omega
  have hj' : (vc4 (g (j / 4)))[j % 4]? = some u := by
    rw [← vcs_get g (i := m) (j := j / 4) (k := j % 4) (by omega) (by omega), ← e]; exact hj
  have key : W.cell? ⟨b, off + j, none⟩ = some u := by
    generalize j / 4 = q at *
    have hm4 : j % 4 = 0 ∨ j % 4 = 1 ∨ j % 4 = 2 ∨ j % 4 = 3 := by omega
    rcases hm4 with h4 | h4 | h4 | h4
    · rw [h4] at hj' e; simp at hj'; subst hj'; rw [show off + j = off + q * 4 by omega]; exact h0
    · rw [h4] at hj' e; simp at hj'; subst hj'; rw [show off + j = off + q * 4 + 1 by omega]; exact h1
    · rw [h4] at hj' e; simp at hj'; subst hj'; rw [show off + j = off + q * 4 + 2 by omega]; exact h2
    · rw [h4] at hj' e; simp at hj'; subst hj'; rw [show off + j = off + q * 4 + 3 by omega]; exact h3
  unfold Addr.add
  split
  · rename_i e0; subst e0; exact key
  · exact key
theorem vc_one {u : Value} : ∀ {g : Nat → Int} {m : Nat}, u ∈ vcs g m → u.oneCell' = true := by
  intro g m h
  simp only [vcs, List.mem_flatMap] at h
  obtain ⟨j, -, hj⟩ := h
  simp at hj
  rcases hj with rfl | rfl | rfl | rfl <;> rfl
theorem wpList_append_row (w : World) {ops : Array Oper} {rest : List Oper} {o : Oper} {a : Act} {Q : Exit → Act → World → Prop} (hgd : o.guard = none) (s x : Operand)
    (ho : o.op = .call { callee := .builtin .append, args := #[s, x], argTypes := #[22, 22] })
    (base : Nat) (v : Value) (n : Nat) (xs : List Value) (hs : a.eval s = v) (hown : w.ownsRow base 24 4 v n xs)
    (p : Option Addr) (m c B : Nat) (g : Nat → Int) (hx : a.eval x = .slice p m c) (hr : Row w B p m (fun i => nd 1 (g i))) (hp : ∀ q, p = some q → q.spot = none) (hnm : n + m ≤ 100000) (hbase : base ≤ w.heap.size)
    (h : ∀ v' w', w'.ownsRow base 24 4 v' (n + m) (xs ++ vcs g m) → w.grownBy w' v.ownBlock → wpList Tryd.prog ops Q rest (a.put o.dst v') w') : wpList Tryd.prog ops Q (o :: rest) a w := by
  obtain ⟨i0, hi, hz0, hz1, hz2⟩ := info_parts info_value
  cases p with
  | none =>
    have hm : m = 0 := by
      rcases Nat.eq_zero_or_pos m with h0 | h0
      · exact h0
      · obtain ⟨b, off, e, _⟩ := hr h0; cases e
    subst hm
    refine wpList_plain hgd fun K hK => ?_
    have hrun := run_append_none (P := Tryd.prog) w base 22 o.type 24 i0 4 Tryd.underlying22 hi v n xs hown c
    unfold Oper.wp execOp
    simp only [ho, resolve, invoke, builtin, Sem.run_bind, Sem.run_pure, Result.andThen_ok, List.map_toArray, List.map_cons, List.map_nil, hs, hx, hrun]
    exact hK _ _ (h v w (by simpa [vcs] using hown) ⟨rfl, rfl, rfl, Nat.le_refl _, fun _ _ _ => rfl⟩)
  | some q =>
    obtain ⟨b, off, sp⟩ := q
    obtain rfl : sp = none := hp _ rfl
    exact wpList_append_own w hgd s x _ ho base 24 i0 (nv 0 0) 4 56 Tryd.underlying22 hi hz0 hz1 hz2 rfl (by decide) v n xs hs hown ⟨b, off, none⟩ m c (vcs g m) hx (vcs_len g m) hr.news (fun u hu => vc_one hu) (by unfold maxLen; omega) (by omega) hbase fun v' w' h1 h2 _ => h v' w' h1 h2

theorem wpList_append_zeros (w : World) {ops : Array Oper} {rest : List Oper} {o : Oper} {a : Act} {Q : Exit → Act → World → Prop} (hgd : o.guard = none) (s x : Operand)
    (ho : o.op = .call { callee := .builtin .append, args := #[s, x], argTypes := #[22, 3] }) (n : Nat) (hs : a.eval s = .slice none 0 0) (hx : a.eval x = .int .i64 (n : Int)) (h0 : 0 < n) (hn : n ≤ 100000)
    (h : ∀ c w', w'.ownsRow w.heap.size 24 4 (.slice (some ⟨w.heap.size, 0, none⟩) 0 c) 0 [] → n ≤ c → Grew w w' → wpList Tryd.prog ops Q rest (a.put o.dst (.slice (some ⟨w.heap.size, 0, none⟩) n c)) w') : wpList Tryd.prog ops Q (o :: rest) a w := by
  obtain ⟨i0, hi, hz0, hz1, hz2⟩ := info_parts info_value
  have hrun := Go.Lib.run_append_nil_zeros (P := Tryd.prog) w 22 3 o.type 24 i0 (nv 0 0) .i64 .i64 Tryd.underlying22 Tryd.underlying3 hi hz0 n h0 (by rw [hz1]; omega) (by omega) (by rw [hz2]; omega)
  have hge := grownCap_ge w n 0 24
  have hle := grownCap_le_maxLen w n 0 24 (by unfold maxLen; omega)
  generalize grownCap w n 0 24 = c at *
  refine wpList_plain hgd fun K hK => ?_
  unfold Oper.wp execOp
  simp only [ho, resolve, invoke, builtin, Sem.run_bind, Sem.run_pure, Result.andThen_ok, List.map_toArray, List.map_cons, List.map_nil, hs, hx, hrun]
  refine hK _ _ (h c _ ?_ hge ((Grew.refl _).drew.alloc _))
  refine World.ownsRow_made w.drew _ c (Nat.le_refl _) hle ?_
  simp only [Array.size_append, size_zeroCells]
  show n * 4 + (c - n) * 4 = c * 4
  omega
set_option maxRecDepth 20000 in
set_option maxHeartbeats 1000000 in
theorem Grow_nil (n : Nat) (w : World) (hn : n ≤ 100000) : Calls Tryd.prog 90 #[.slice none 0 0, .int .i64 (n : Int)] w fun e w' => ∃ v, e = .returned v ∧ w'.ownsRow w.heap.size 24 4 v 0 [] ∧ Grew w w' := by
  obtain ⟨i0, hi, hz0, hz1, hz2⟩ := info_parts info_value
  by_cases h0 : n = 0
  · subst h0
    go_enter Tryd.func90, Tryd.ntmps90
    go_wp2
    go_ret
    exact ⟨_, rfl, World.ownsRow_nil _ _ _ _, Grew.refl _⟩
  · have hpos : 0 < n := by omega
    have hposz : 0 < (n : Int) := by omega
    have hneg : ¬ (n : Int) < 0 := by omega
    go_enter Tryd.func90, Tryd.ntmps90
    go_wp2_with (at_builtin; refine wpList_append_zeros _ rfl _ _ rfl n rfl rfl hpos hn ?_; intro c' w1 hown hcn G1)
    go_ret
    exact ⟨_, rfl, hown, G1⟩
end Go.Proofs.YtnhhmndnmkkhlaaDoor
