/- append of a row of structs, nil or not, to a slice of the call's own; append of zero values to nil; rows one behind the other: steps for the walk; no condition. -/
import Derived.Test.YtbmkamnjjfmdiaaCopR
import Derived.Lib.AppendZeros
import Derived.OwnWalk
namespace Go.Proofs.Ytbmkamnjjfmdiaa
open Go.RowKit Go.Sort
set_option linter.unusedVariables false
set_option linter.unusedSimpArgs false

theorem run_append_none {P : Program} (w : World) (base : Nat) (t ty e : TypeId) (i : TypeInfo) (size : Nat) (ht : P.underlying t = some (.slice e)) (hi : P.info? e = some i)
    (v : Value) (n : Nat) (xs : List Value) (hown : w.ownsRow base e size v n xs) (c : Nat) :
    (Builtin.append_ #[t, t] ty #[v, .slice none 0 c]).run P w = .ok v w := by
  rcases hown.2 with ⟨rfl, rfl⟩ | ⟨g, cap, cur, rfl, hbg, hg, hnc, hcm, hcs, htake⟩
  · simp [Builtin.append_, run_underlying ht, sizeOf, typeInfo, hi, Builtin.lenOf, Builtin.firstCells]
  · simp [Builtin.append_, run_underlying ht, sizeOf, typeInfo, hi, Builtin.lenOf, Builtin.firstCells, hnc, storeCells]
theorem SRow.news {W : World} {b off n k : Nat} {f : Nat → Nat → Value} (h : SRow W (some ⟨b, off, none⟩) n k f) : ∀ j u, (flat n k f)[j]? = some u → W.cell? ((⟨b, off, none⟩ : Addr).add j) = some u := by
  intro j u hj
  obtain ⟨i, r, hi, hr, rfl, rfl⟩ := flat_at hj
  obtain ⟨b', off', q, _, hc⟩ := h (Nat.lt_of_le_of_lt (Nat.zero_le _) hi)
  cases q
  rw [addr_off, ← Nat.add_assoc]
  exact hc i hi r hr
theorem wpList_append_srow {P : Program} (w : World) {ops : Array Oper} {rest : List Oper} {o : Oper} {a : Act} {Q : Exit → Act → World → Prop} (hgd : o.guard = none) (s x : Operand) (t : TypeId)
    (ho : o.op = .call { callee := .builtin .append, args := #[s, x], argTypes := #[t, t] })
    (base : Nat) (e : TypeId) (i : TypeInfo) (z : Value) (size bytes : Nat) (ht : P.underlying t = some (.slice e)) (hi : P.info? e = some i) (hz : i.zero = some z)
    (hsize : i.size = size) (hby : i.bytes = bytes) (hzs : z.cells.size = size) (hsz : 0 < size)
    (v : Value) (n : Nat) (xs : List Value) (hs : a.eval s = v) (hown : w.ownsRow base e size v n xs)
    (p : Option Addr) (m c : Nat) (f : Nat → Nat → Value) (hx : a.eval x = .slice p m c) (hp : SRow w p m size f) (hq : ∀ q, p = some q → q.spot = none) (h1 : ∀ i r, (f i r).oneCell' = true) (hm : n + m ≤ maxLen) (hmb : (n + m) * bytes ≤ 140737488355328) (hbase : base ≤ w.heap.size)
    (h : ∀ v' w', w'.ownsRow base e size v' (n + m) (xs ++ flat m size f) → w.grownBy w' v.ownBlock → wpList P ops Q rest (a.put o.dst v') w') : wpList P ops Q (o :: rest) a w := by
  cases p with
  | none =>
    have h0 : m = 0 := by
      rcases Nat.eq_zero_or_pos m with e0 | e0
      · exact e0
      · obtain ⟨_, _, q, _⟩ := hp e0
        cases q
    subst h0
    refine wpList_plain hgd fun K hK => ?_
    have hrun := run_append_none (P := P) w base t o.type e i size ht hi v n xs hown c
    unfold Oper.wp execOp
    simp only [ho, resolve, invoke, builtin, Sem.run_bind, Sem.run_pure, Result.andThen_ok, List.map_toArray, List.map_cons, List.map_nil, hs, hx, hrun]
    exact hK _ _ (h v w (by simpa [flat] using hown) ⟨rfl, rfl, rfl, Nat.le_refl _, fun _ _ _ => rfl⟩)
  | some ad =>
    obtain ⟨b, off, sp⟩ := ad
    obtain rfl : sp = none := hq _ rfl
    exact wpList_append_own w hgd s x t ho base e i z size bytes ht hi hz hsize hby hzs hsz v n xs hs hown ⟨b, off, none⟩ m c (flat m size f) hx (flat_len _ _ _) hp.news (flat_one h1) hm hmb hbase fun v' w' q1 q2 _ => h v' w' q1 q2
theorem wpList_append_zeros {P : Program} (w : World) {ops : Array Oper} {rest : List Oper} {o : Oper} {a : Act} {Q : Exit → Act → World → Prop} (hgd : o.guard = none) (s x : Operand) (t tn : TypeId)
    (ho : o.op = .call { callee := .builtin .append, args := #[s, x], argTypes := #[t, tn] })
    (e : TypeId) (i : TypeInfo) (z : Value) (size bytes : Nat) (ht : P.underlying t = some (.slice e)) (htn : P.underlying tn = some (.int .i64)) (hi : P.info? e = some i) (hz : i.zero = some z)
    (hsize : i.size = size) (hby : i.bytes = bytes) (hzs : z.cells.size = size) (hsz : 0 < size)
    (n : Nat) (hs : a.eval s = .slice none 0 0) (hx : a.eval x = .int .i64 (n : Int)) (h0 : 0 < n) (hn : n ≤ 1000000) (hb : n * bytes ≤ 140737488355328) (hs2 : size ≤ 1000)
    (h : ∀ c w', w'.ownsRow w.heap.size e size (.slice (some ⟨w.heap.size, 0, none⟩) 0 c) 0 [] → n ≤ c → Grew w w' → wpList P ops Q rest (a.put o.dst (.slice (some ⟨w.heap.size, 0, none⟩) n c)) w') : wpList P ops Q (o :: rest) a w := by
  have hrun := Go.Lib.run_append_nil_zeros (P := P) w t tn o.type e i z .i64 .i64 ht htn hi hz n h0 (by rw [hsize]; omega) (by omega) (by rw [hby]; omega)
  have hge := grownCap_ge w n 0 e
  have hle := grownCap_le_maxLen w n 0 e (by unfold maxLen; omega)
  generalize grownCap w n 0 e = c at *
  refine wpList_plain hgd fun K hK => ?_
  unfold Oper.wp execOp
  simp only [ho, resolve, invoke, builtin, Sem.run_bind, Sem.run_pure, Result.andThen_ok, List.map_toArray, List.map_cons, List.map_nil, hs, hx, hrun]
  refine hK _ _ (h c _ ?_ hge ((Grew.refl _).drew.alloc _))
  refine World.ownsRow_made w.drew _ c (Nat.le_refl _) hle ?_
  simp only [Array.size_append, size_zeroCells, hzs]
  rw [← Nat.add_mul, show n + (c - n) = c by omega]
/-- Rows one behind the other. -/
def catV (n0 : Nat) (f g : Nat → Nat → Value) (i : Nat) : Nat → Value := if i < n0 then f i else g (i - n0)
theorem flat_cat (n0 k : Nat) (f g : Nat → Nat → Value) : ∀ n1, flat n0 k f ++ flat n1 k g = flat (n0 + n1) k (catV n0 f g)
  | 0 => by
    rw [flat_zero, List.append_nil, Nat.add_zero]
    exact flat_congr fun i hi j => by unfold catV; rw [if_pos hi]
  | n1 + 1 => by
    rw [flat_succ, ← List.append_assoc, flat_cat n0 k f g n1, ← Nat.add_assoc, flat_succ]
    have e : catV n0 f g (n0 + n1) = g n1 := by unfold catV; rw [if_neg (by omega), show n0 + n1 - n0 = n1 by omega]
    rw [e]
end Go.Proofs.Ytbmkamnjjfmdiaa
