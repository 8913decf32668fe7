/- 'l = append(l, x)' in a region that draws its order: the new element's row, the append, the assignment; what reads beside them stands before them; no condition. -/
import Derived.Test.YtbmkamnjjfmdiaaCatR
import Derived.Test.YtbmkamnjjfmdiaaMixJ
namespace Go.Proofs.Ytbmkamnjjfmdiaa
open Go.RowKit Go.Sort
set_option linter.unusedVariables false
set_option linter.unusedSimpArgs false

theorem off_of {p q : Bool} (h : p = true → q = true) (hq : q = false) : p = false := by
  cases hp : p with
  | false => rfl
  | true => rw [h hp] at hq; exact Bool.noConfusion hq
theorem below_byA {B : Nat} {w0 w w' : World} {base size n : Nat} {e : TypeId} {v : Value} {xs : List Value} (h : Below B w0 w) (ho : w.ownsRow base e size v n xs) (g : w.grownBy w' v.ownBlock) (hb : B ≤ base) (hB : B ≤ w0.heap.size) : Below B w0 w' :=
  Below.grown h g (Nat.le_trans hB h.size) (fun j hj => Nat.le_trans hb (ho.lt _ hj).1)
theorem does_append_any {P : Program} (w : World) {o : Oper} {ev : Operand → Value} {R : Value → World → Prop} (s x : Operand) (t : TypeId)
    (ho : o.op = .call { callee := .builtin .append, args := #[s, x], argTypes := #[t, t] })
    (base : Nat) (e : TypeId) (i : TypeInfo) (z : Value) (size bytes : Nat) (ht : P.underlying t = some (.slice e)) (hi : P.info? e = some i) (hz : i.zero = some z)
    (hsize : i.size = size) (hby : i.bytes = bytes) (hzs : z.cells.size = size) (hsz : 0 < size)
    (v : Value) (n : Nat) (xs : List Value) (hs : ev s = v) (hown : w.ownsRow base e size v n xs)
    (ad : Addr) (m c : Nat) (news : List Value) (hx : ev x = .slice (some ad) m c) (hl : news.length = m * size) (hnews : ∀ j u, news[j]? = some u → w.cell? (ad.add j) = some u) (h1 : ∀ u ∈ news, u.oneCell' = true)
    (hm : n + m ≤ maxLen) (hmb : (n + m) * bytes ≤ 140737488355328) (hbase : base ≤ w.heap.size)
    (h : ∀ v' w', w'.ownsRow base e size v' (n + m) (xs ++ news) → w.grownBy w' v.ownBlock → R v' w') : does P o ev w R := by
  obtain ⟨v', w', hr, h2, h3, h4⟩ := run_append_own (P := P) w base t o.type e i z size bytes ht hi hz hsize hby hzs hsz v n xs hown ad m c news hl hnews h1 hm hmb hbase
  unfold does execOp
  simp only [ho, resolve, invoke, builtin, Sem.run_bind, Sem.run_pure, Result.andThen_ok, List.map_toArray, List.map_cons, List.map_nil, hs, hx, hr, doesUpon]
  exact h v' w' h2 h3
/-- The new element's row (ka), the append (kb), the assignment (kc). -/
structure A1M (w0 : World) (base : Nat) (T : TypeId) (sz : Nat) (v : Value) (n : Nat) (xs cs : List Value) (ka kb kc : Nat) (D : Nat → Bool) (vs : Nat → Value) (W : World) : Prop where
  bl : Below w0.heap.size w0 W
  h0 : D kb = false → W.ownsRow base T sz v n xs
  ha : D ka = true → D kb = false → ∃ g, vs ka = .slice (some ⟨g, 0, none⟩) 1 1 ∧ Blk W g T cs
  hb : D kb = true → W.ownsRow base T sz (vs kb) (n + 1) (xs ++ cs)
  hc : D kc = true → D kb = true ∧ vs kc = vs kb
section
variable {w0 W W' : World} {base sz n : Nat} {T : TypeId} {v : Value} {xs cs : List Value} {ka kb kc : Nat} {D D' : Nat → Bool} {vs vs' : Nat → Value}
theorem A1M.start (h : Below w0.heap.size w0 W) (ho : W.ownsRow base T sz v n xs) : A1M w0 base T sz v n xs cs ka kb kc (fun _ => false) vs W :=
  ⟨h, fun _ => ho, fun h => Bool.noConfusion h, fun h => Bool.noConfusion h, fun h => Bool.noConfusion h⟩
theorem A1M.ext (h : A1M w0 base T sz v n xs cs ka kb kc D vs W) (hD : ∀ b ∈ [ka, kb, kc], D b = D' b ∧ (D b = true → vs b = vs' b)) : A1M w0 base T sz v n xs cs ka kb kc D' vs' W := by
  obtain ⟨a1, b1⟩ := hD ka (by simp)
  obtain ⟨a2, b2⟩ := hD kb (by simp)
  obtain ⟨a3, b3⟩ := hD kc (by simp)
  refine ⟨h.bl, fun q => h.h0 (a2.trans q), fun q r => ?_, fun q => ?_, fun q => ?_⟩
  · rw [← b1 (a1.trans q)]; exact h.ha (a1.trans q) (a2.trans r)
  · rw [← b2 (a2.trans q)]; exact h.hb (a2.trans q)
  · obtain ⟨r1, r2⟩ := h.hc (a3.trans q)
    exact ⟨a2.symm.trans r1, by rw [← b3 (a3.trans q), ← b2 r1]; exact r2⟩
theorem A1M.opA (h : A1M w0 base T sz v n xs cs ka kb kc D vs W) (n1 : kb ≠ ka) (n2 : kc ≠ ka) (hb : D kb = false) (hc : D kc = false) : A1M w0 base T sz v n xs cs ka kb kc (upd D ka true) (upd vs ka (.slice (some ⟨W.heap.size, 0, none⟩) 1 1)) (W.alloc (.cells cs.toArray T)) := by
  have u : ∀ j, j ≠ ka → upd D ka true j = D j := fun j hj => by simp [upd, hj]
  refine ⟨h.bl.alloc h.bl.size _, fun _ => (h.h0 hb).alloc _, fun _ _ => ⟨W.heap.size, by simp [upd], Blk.new rfl⟩, fun q => ?_, fun q => ?_⟩
  · rw [u _ n1, hb] at q; exact Bool.noConfusion q
  · rw [u _ n2, hc] at q; exact Bool.noConfusion q
theorem A1M.opB {v' : Value} (h : A1M w0 base T sz v n xs cs ka kb kc D vs W) (n2 : kc ≠ kb) (hb : D kb = false) (hc : D kc = false) (hw : w0.heap.size ≤ base) (hO : W'.ownsRow base T sz v' (n + 1) (xs ++ cs)) (hg : W.grownBy W' v.ownBlock) : A1M w0 base T sz v n xs cs ka kb kc (upd D kb true) (upd vs kb v') W' := by
  refine ⟨below_byA h.bl (h.h0 hb) hg hw (Nat.le_refl _), fun q => by simp [upd] at q, fun _ q => by simp [upd] at q, fun _ => ?_, fun q => ?_⟩
  · rw [show upd vs kb v' kb = v' by simp [upd]]; exact hO
  · rw [show upd D kb true kc = D kc by simp [upd, n2], hc] at q; exact Bool.noConfusion q
theorem A1M.opC (h : A1M w0 base T sz v n xs cs ka kb kc D vs W) (n1 : kb ≠ kc) (n2 : ka ≠ kc) (hb : D kb = true) : A1M w0 base T sz v n xs cs ka kb kc (upd D kc true) (upd vs kc (vs kb)) W := by
  have u : ∀ j, j ≠ kc → upd D kc true j = D j := fun j hj => by simp [upd, hj]
  have t : ∀ j, j ≠ kc → upd vs kc (vs kb) j = vs j := fun j hj => by simp [upd, hj]
  refine ⟨h.bl, fun q => ?_, fun _ q => ?_, fun _ => ?_, fun _ => ⟨by rw [u _ n1]; exact hb, by rw [t _ n1]; simp [upd]⟩⟩
  · rw [u _ n1, hb] at q; exact Bool.noConfusion q
  · rw [u _ n1, hb] at q; exact Bool.noConfusion q
  · rw [t _ n1]; exact h.hb hb
theorem A1M.at_end (h : A1M w0 base T sz v n xs cs ka kb kc (fun _ => true) vs W) : vs kc = vs kb ∧ W.ownsRow base T sz (vs kb) (n + 1) (xs ++ cs) ∧ Below w0.heap.size w0 W := ⟨(h.hc rfl).2, h.hb rfl, h.bl⟩
end
/-! ### What stands before an operation -/
def reachL (ops : Array Oper) : Nat → List Nat → List Nat
  | 0, S => S
  | f + 1, S => reachL ops f (S ++ (List.range ops.size).filter fun k => !S.contains k && S.any fun j => Region.waitsFor .any ops j k)
theorem reach_D {ops : Array Oper} {D : Nat → Bool} (hcl : ∀ j k, Region.waitsFor .any ops j k = true → D j = true → D k = true) : ∀ (f : Nat) (S : List Nat), (∀ j ∈ S, D j = true) → ∀ i ∈ reachL ops f S, D i = true
  | 0, S, h, i, hi => h i hi
  | f + 1, S, h, i, hi => by
    refine reach_D hcl f _ (fun j hj => ?_) i hi
    rcases List.mem_append.1 hj with hj | hj
    · exact h j hj
    · obtain ⟨_, h2⟩ := List.mem_filter.1 hj
      rw [Bool.and_eq_true, List.any_eq_true] at h2
      obtain ⟨j', hj', hw⟩ := h2.2
      exact hcl j' j hw (h j' hj')
def heldB (ops : Array Oper) (B : List Nat) (kb : Nat) : Bool := (List.range ops.size).all fun i => B.contains i || (reachL ops ops.size [kb]).contains i
theorem hold_of {ops : Array Oper} {B : List Nat} {kb i : Nat} {D : Nat → Bool} (hA : heldB ops B kb = true) (hi : i < ops.size) (hB : B.contains i = false) (hD : D i = false) (hcl : ∀ j k, Region.waitsFor .any ops j k = true → D j = true → D k = true) : D kb = false := by
  unfold heldB at hA
  rw [List.all_eq_true] at hA
  have h := hA i (List.mem_range.2 hi)
  rw [hB, Bool.false_or, List.contains_iff_mem] at h
  cases q : D kb with
  | false => rfl
  | true =>
    have := reach_D hcl ops.size [kb] (fun j hj => by rw [List.mem_singleton] at hj; subst hj; exact q) i h
    rw [this] at hD
    exact Bool.noConfusion hD
end Go.Proofs.Ytbmkamnjjfmdiaa
