/- Toward Tracks of the reference of package grid: rows behind append, the tracks of a kind by their ranks, the elements that share the rest; no premise on the program. -/
import Derived.Test.YtdoenkngmgclmaaGdR4
import Derived.Test.YtdoenkngmgclmaaBoCr
import Derived.Test.YtdoenkngmgclmaaRdB
namespace Go.Proofs.Ytdoenkngmgclmaa
open Go.RowKit Go.Sort
set_option linter.unusedVariables false
set_option linter.unusedSimpArgs false

/-- A row of integers of the call's own, that may have room behind it. -/
def CRw (w : World) (b n : Nat) (f : Nat → Int) : Prop := ∃ cur : Array Value, w.heap[b]? = some (.cells cur 3 (0, 0)) ∧ ∀ k, k < n → cur[k]? = some (.int .i64 (f k))
section
variable {w w' : World} {b n sb : Nat} {f g : Nat → Int}
theorem CRw.lt (h : CRw w b n f) : b < w.heap.size := by obtain ⟨cur, h1, _⟩ := h; exact (Array.getElem?_eq_some_iff.1 h1).1
theorem CRw.cell (h : CRw w b n f) {i : Nat} (hi : i < n) : w.cell? ⟨b, i, none⟩ = some (.int .i64 (f i)) := by
  obtain ⟨cur, h1, h2⟩ := h
  rw [cell_of_row w b i _ 3 (0, 0) h1]; exact h2 i hi
theorem CRw.frozen (h : CRw w b n f) (i : Nat) : w.frozen? ⟨b, i, none⟩ = false := by obtain ⟨cur, h1, _⟩ := h; simp [World.frozen?, h1]
theorem CRw.congr (h : CRw w b n f) (e : ∀ i, i < n → f i = g i) : CRw w b n g := by obtain ⟨cur, h1, h2⟩ := h; exact ⟨cur, h1, fun k hk => by rw [← e k hk]; exact h2 k hk⟩
theorem CRw.below (h : CRw w b n f) (hb : Below w.heap.size w w') : CRw w' b n f := by obtain ⟨cur, h1, h2⟩ := h; exact ⟨cur, (hb.block b (Array.getElem?_eq_some_iff.1 h1).1).trans h1, h2⟩
theorem CRw.set_ (h : CRw w b n f) (i : Nat) (v : Int) : CRw (w.setCell ⟨b, i, none⟩ (.int .i64 v)) b n (fun j => if j = i then v else f j) := by
  obtain ⟨cur, h1, h2⟩ := h
  refine ⟨cur.setIfInBounds i (.int .i64 v), by simp [World.setCell, Array.getElem?_modify, h1], fun k hk => ?_⟩
  rw [Array.getElem?_setIfInBounds]
  by_cases e : i = k
  · subst e
    have := h2 i hk
    rw [if_pos rfl, if_pos (Array.getElem?_eq_some_iff.1 this).1]
    show _ = some (Value.int .i64 (if i = i then v else f i))
    rw [if_pos rfl]
  · rw [if_neg e]
    show _ = some (Value.int .i64 (if k = i then v else f k))
    rw [if_neg (fun h => e h.symm)]; exact h2 k hk
theorem CRw.far (h : CRw w b n f) {p : Addr} (hp : b ≠ p.block) (u : Value) : CRw (w.setCell p u) b n f := by obtain ⟨cur, h1, h2⟩ := h; exact ⟨cur, (Below.heap_setCell w p u b hp).trans h1, h2⟩
theorem CRw.kept (h : CRw w b n f) (hk : Kept sb w w') (hn : b ≠ sb) : CRw w' b n f := by obtain ⟨cur, h1, h2⟩ := h; exact ⟨cur, (hk.block b (Array.getElem?_eq_some_iff.1 h1).1 hn).trans h1, h2⟩
theorem CRw.of (h : IRow w b n f) : CRw w b n f := ⟨_, h, fun k hk => ints_get f hk⟩
theorem CRw.reads (h : CRw w b n f) : Reads w (some ⟨b, 0, none⟩) n f := fun _ => ⟨b, 0, rfl, fun k hk => by rw [Nat.zero_add]; exact h.cell hk⟩
end
theorem own_sz {w : World} {base : Nat} {v : Value} {n : Nat} {f : Nat → Int} (h : w.ownsRow base 3 1 v n (vals n f)) : ∃ (p : Option Addr) (b c : Nat), v = .slice p n c ∧ base ≤ b ∧ (0 < n → p = some ⟨b, 0, none⟩ ∧ CRw w b n f) := by
  rcases h.2 with ⟨rfl, h0⟩ | ⟨g, cap, cur, rfl, hb, hg, hc, hm, hs, ht⟩
  · have hn : n = 0 := by simpa using h0
    subst hn
    exact ⟨none, base, 0, rfl, Nat.le_refl _, fun h => absurd h (Nat.lt_irrefl _)⟩
  · refine ⟨_, g, cap, rfl, hb, fun hn => ⟨rfl, cur, hg, fun k hk => ?_⟩⟩
    have := vals_get f hk
    rw [← ht, List.getElem?_take, if_pos (by omega)] at this
    simpa using this
theorem own_srowG {w : World} {base : Nat} {e : TypeId} {s : Nat} {v : Value} {n : Nat} {f : Nat → Nat → Value} (h : w.ownsRow base e s v n (flat n s f)) : ∃ p c, v = .slice p n c ∧ SRow w p n s f := by
  obtain ⟨q, c, h1, _, h2⟩ := own_srow h
  exact ⟨q, c, h1, h2⟩
theorem selN_at {z : Nat → Bool} : ∀ {n k : Nat}, k < rk z n → selN z n k < n ∧ z (selN z n k) = false ∧ rk z (selN z n k) = k
  | n + 1, k, h => by
    simp only [selN]
    simp only [rk] at h
    cases hz : z n with
    | true =>
      rw [hz] at h
      simp at h ⊢
      have := selN_at h
      exact ⟨by omega, this.2⟩
    | false =>
      rw [hz] at h
      simp at h ⊢
      by_cases hk : k = rk z n
      · rw [if_pos hk]; exact ⟨by omega, hz, hk.symm⟩
      · rw [if_neg hk]
        have := selN_at (z := z) (n := n) (k := k) (by omega)
        exact ⟨by omega, this.2⟩
theorem selN_same {z : Nat → Bool} {n k : Nat} (h : k < rk z n) : selN z (n + 1) k = selN z n k := by
  simp only [selN]
  cases hz : z n with
  | true => simp
  | false => simp; omega
theorem selN_new {z : Nat → Bool} {n : Nat} (h : z n = false) : selN z (n + 1) (rk z n) = n := by
  simp only [selN, h]
  simp
theorem vals_cellsG {w : World} {b : Nat} {m : Nat} {P : Nat → Int} (h : ∀ j, j < m → w.cell? ⟨b, j, none⟩ = some (.int .i64 (P j))) : ∀ j v, (vals m P)[j]? = some v → w.cell? ((Addr.mk b 0 none).add j) = some v := fun j v hv => by
  have hj : j < m := by
    rcases Nat.lt_or_ge j m with h | h
    · exact h
    · rw [List.getElem?_eq_none (by rw [vals_len]; exact h)] at hv; cases hv
  rw [vals_get P hj] at hv
  cases hv
  rw [addr_add]
  exact h j hj
theorem vals_oneG {m : Nat} {P : Nat → Int} : ∀ v ∈ vals m P, v.oneCell' = true := fun v hv => by obtain ⟨i, hi, rfl⟩ := List.mem_map.1 hv; rfl
def reJ (av gap : Int) (z : Nat → Bool) (s : Nat → Int) (i : Nat) : Int := spcF av gap i - sumF (fun j => if z j then s j else 0) i
theorem reJ_zero (av gap : Int) (z : Nat → Bool) (s : Nat → Int) : reJ av gap z s 0 = av := by simp [reJ, spcF, sumF]
theorem reJ_next (av gap : Int) (z : Nat → Bool) (s : Nat → Int) (i : Nat) : reJ av gap z s (i + 1) = reJ av gap z s i - (if 0 < i then gap else 0) - (if z i then s i else 0) := by
  unfold reJ spcF
  rw [if_neg (by omega)]
  simp only [sumF]
  by_cases h : i = 0
  · subst h
    rw [if_pos rfl, if_neg (Nat.lt_irrefl _), show ((0 + 1 : Nat) : Int) - 1 = 0 by omega, Int.mul_zero]
    omega
  · rw [if_neg h, if_pos (show 0 < i by omega), show ((i + 1 : Nat) : Int) - 1 = ((i : Int) - 1) + 1 by omega, Int.mul_add]
    omega
theorem reJ_bd {av gap : Int} {z : Nat → Bool} {s : Nat → Int} {i : Nat} (ha : 0 ≤ av ∧ av ≤ 1048576) (hg : 0 ≤ gap ∧ gap ≤ 1048576) (hi : i ≤ 24) (hs : ∀ j, j < i → 0 ≤ s j ∧ s j ≤ 536870912) : -17179869184 ≤ reJ av gap z s i ∧ reJ av gap z s i ≤ 1048576 := by
  have b := sumF_bound (f := fun j => if z j then s j else 0) (B := 536870912) i fun j hj => by
    have := hs j hj
    show 0 ≤ (if z j then s j else 0) ∧ (if z j then s j else 0) ≤ 536870912
    split <;> omega
  have c := spc_bd (n := i) ha hg
  unfold reJ
  omega
theorem info_fxG : (Try.prog.info? 69).map (fun i => (i.zero, i.size, i.bytes)) = some (some (.agg #[.int .i64 0, .int .i64 0, .int .i64 0, .int .i64 0, .int .i64 0]), 5, 40) := by kernel_rfl
theorem info_partsX {i : Option TypeInfo} {z : Value} {n m : Nat} (h : i.map (fun i => (i.zero, i.size, i.bytes)) = some (some z, n, m)) : ∃ j, i = some j ∧ j.zero = some z ∧ j.size = n ∧ j.bytes = m := by
  cases i with
  | none => simp at h
  | some j => simp at h; exact ⟨j, rfl, h.1, h.2.1, h.2.2⟩
/-- What stands behind a literal of one element, the append, the assignment. -/
def stA (A0 : World → Prop) (T : TypeId) (xs : List Value) (A1 : Value → World → Prop) : List Value → World → Prop
  | [], W => A0 W
  | [q], W => ∃ g, q = .slice (some ⟨g, 0, none⟩) 1 1 ∧ Blk W g T xs ∧ A0 W
  | [_, r], W => A1 r W
  | _ :: _ :: r :: _, W => A1 r W
theorem stA_J {A0 J : World → Prop} {T : TypeId} {xs : List Value} {A1 : Value → World → Prop} (h0 : ∀ W, A0 W → J W) (h1 : ∀ v W, A1 v W → J W) : ∀ (vals : List Value) (W : World), stA A0 T xs A1 vals W → J W
  | [], W, h => h0 W h
  | [_], W, ⟨_, _, _, h⟩ => h0 W h
  | [_, r], W, h => h1 r W h
  | _ :: _ :: r :: _, W, h => h1 r W h
theorem wa_bd {gap : Int} {n m : Nat} {t : Nat → Tk} {I : Nat → It} (hm : m ≤ 100) (h : allOk 0 gap n t m I) {i : Nat} (hi : i < n) : 0 ≤ waG t gap I n m i ∧ waG t gap I n m i ≤ 134217728 := by
  have a := ls_bd h.2.1.1 hm h.2.2.1 h.2.2.2 hi
  have b := ms_bd h.2.1.1 hm h.2.2.1 h.2.2.2 hi
  unfold waG
  omega
theorem fx_ok {gap : Int} {n m : Nat} {t : Nat → Tk} {I : Nat → It} (hm : m ≤ 100) (h : allOk 0 gap n t m I) {k : Nat} (hk : k < rk (zF t) n) : okF (fxG t gap I n m (selN (zF t) n k)) := by
  obtain ⟨h1, h2, _⟩ := selN_at hk
  have a := lq_bd hm h _ h1
  have b : (t (selN (zF t) n k)).kd = 2 := by
    have h2' : (!decide ((t (selN (zF t) n k)).kd = 2)) = false := h2
    simpa using h2'
  have c := (h.2.2.1 _ h1).2.2.2 b
  unfold okF fxG
  refine ⟨by dsimp only; omega, by dsimp only; omega, by dsimp only; omega, by dsimp only; omega, by dsimp only; omega⟩
end Go.Proofs.Ytdoenkngmgclmaa
