/- Without of the reference; appends of lists of constraints; what the law on changes of systems keeps in memory; no condition but on sizes. -/
import Derived.Test.YtdoncogkepopiaaCpK
namespace Go.Proofs.Ytdoncogkepopiaa
open Go.RowKit Go.Sort Go.Shelf
set_option linter.unusedVariables false
set_option linter.unusedSimpArgs false

theorem does_append_any {P : Program} (w : World) {o : Oper} {ev : Operand → Value} {R : Value → World → Prop} (s x : Operand) (t : TypeId)
    (ho : o.op = .call { callee := .builtin .append, args := #[s, x], argTypes := #[t, t] })
    (base : Nat) (e : TypeId) (i : TypeInfo) (z : Value) (size bytes : Nat) (ht : P.underlying t = some (.slice e)) (hi : P.info? e = some i) (hz : i.zero = some z)
    (hsize : i.size = size) (hby : i.bytes = bytes) (hzs : z.cells.size = size) (hsz : 0 < size)
    (v : Value) (n : Nat) (xs : List Value) (hs : ev s = v) (hown : w.ownsRow base e size v n xs)
    (p : Option Addr) (m c : Nat) (f : Nat → Nat → Value) (hx : ev x = .slice p m c) (hp : SRow w p m size f) (h1 : ∀ i r, (f i r).oneCell' = true) (hm : n + m ≤ maxLen) (hmb : (n + m) * bytes ≤ 140737488355328) (hbase : base ≤ w.heap.size)
    (h : ∀ v' w', w'.ownsRow base e size v' (n + m) (xs ++ flat m size f) → w.grownBy w' v.ownBlock → R v' w') : does P o ev w R := by
  cases p with
  | none =>
    have h0 : m = 0 := by
      rcases Nat.eq_zero_or_pos m with e0 | e0
      · exact e0
      · obtain ⟨_, _, q, _⟩ := hp e0
        cases q
    subst h0
    have hr := run_append_none (P := P) w base t o.type e i size ht hi v n xs hown c
    unfold does execOp
    simp only [ho, resolve, invoke, builtin, Sem.run_bind, Sem.run_pure, Result.andThen_ok, List.map_toArray, List.map_cons, List.map_nil, hs, hx, hr, doesUpon]
    exact h v w (by simpa [flat] using hown) ⟨rfl, rfl, rfl, Nat.le_refl _, fun _ _ _ => rfl⟩
  | some ad =>
    obtain ⟨v', w', hr, h2, h3, h4⟩ := run_append_own (P := P) w base t o.type e i z size bytes ht hi hz hsize hby hzs hsz v n xs hown ad m c (flat m size f) (flat_len _ _ _) (by
      intro j u hj
      obtain ⟨i', r, hi', hr, rfl, rfl⟩ := flat_at hj
      obtain ⟨b, off, q, _, hc⟩ := hp (Nat.lt_of_le_of_lt (Nat.zero_le _) hi')
      cases q
      rw [addr_off, ← Nat.add_assoc]
      exact hc i' hi' r hr) (flat_one h1) hm hmb hbase
    unfold does execOp
    simp only [ho, resolve, invoke, builtin, Sem.run_bind, Sem.run_pure, Result.andThen_ok, List.map_toArray, List.map_cons, List.map_nil, hs, hx, hr, doesUpon]
    exact h v' w' h2 h3
def woSt (w : World) (i m : Nat) (l : Nat → Cn) : List Value → World → Prop
  | [], W => Below w.heap.size w W
  | [u], W => W.ownsRow w.heap.size 40 5 u i (flat i 5 (cnC l)) ∧ Below w.heap.size w W
  | _ :: u :: r, W => (W.ownsRow w.heap.size 40 5 u (m - 1) (flat (m - 1) 5 (cnC (woC l i))) ∧ Below w.heap.size w W) ∧ ∀ v, r = [v] → v = u
theorem flat_wo {m i : Nat} {l : Nat → Cn} (hi : i < m) : flat i 5 (cnC l) ++ flat (m - (i + 1)) 5 (fun k => cnC l (k + (i + 1))) = flat (m - 1) 5 (cnC (woC l i)) := by
  rw [flat_cat, show i + (m - (i + 1)) = m - 1 by omega]
  refine flat_congr fun k hk j => ?_
  unfold catV
  by_cases h : k < i
  · rw [if_pos h]; unfold cnC woC; rw [if_pos h]
  · rw [if_neg h]; show cnC l (k - i + (i + 1)) j = _; unfold cnC woC; rw [if_neg h, show k - i + (i + 1) = k + 1 by omega]
set_option maxHeartbeats 8000000 in
set_option maxRecDepth 100000 in
theorem rwo_any (p : Option Addr) (m c i : Nat) (l : Nat → Cn) (w : World) (hp : SRow w p m 5 (cnC l)) (hmc : m ≤ c) (hi : i < m) (hm : m ≤ 90000) :
    Calls Try.prog 21 #[.slice p m c, .int .i64 (i : Int)] w fun e w' => ∃ v, e = .returned v ∧ w'.ownsRow w.heap.size 40 5 v (m - 1) (flat (m - 1) 5 (cnC (woC l i))) ∧ Below w.heap.size w w' := by
  obtain ⟨b, off, rfl, hb, hc⟩ := hp (by omega)
  obtain ⟨it, i1, i2, i3, i4⟩ := info_partsU info_cnB
  have R1 : Hid (∀ W, Below w.heap.size w W → SRow W (some ⟨b, off, none⟩) i 5 (cnC l)) := fun W h hn => ⟨b, off, rfl, Nat.lt_of_lt_of_le hb h.size, fun k hk r hr => (h.cell (p := ⟨b, off + k * 5 + r, none⟩) hb).trans (hc k (by omega) r hr)⟩
  have R2 : Hid (∀ W, Below w.heap.size w W → SRow W (some ⟨b, off + (i + 1) * 5, none⟩) (m - (i + 1)) 5 (fun k => cnC l (k + (i + 1)))) := fun W h hn => ⟨b, off + (i + 1) * 5, rfl, Nat.lt_of_lt_of_le hb h.size, fun k hk r hr => by
    have := (h.cell (p := ⟨b, off + (k + (i + 1)) * 5 + r, none⟩) hb).trans (hc (k + (i + 1)) (by omega) r hr)
    rw [show off + (i + 1) * 5 + k * 5 + r = off + (k + (i + 1)) * 5 + r by omega]
    exact this⟩
  have R3 : Hid (c = i + 1 → ∀ W, SRow W (some ⟨b, off, none⟩) (m - (i + 1)) 5 (fun k => cnC l (k + (i + 1)))) := fun h W hn => by omega
  have FW := hide (flat_wo (l := l) hi)
  clear hp hc
  have wi : IntKind.i64.wrap ((i : Int) + 1) = (i : Int) + 1 := wr (by omega) (by omega)
  have hic : i ≤ c := by omega
  have him : i + 1 ≤ m := by omega
  have hjc : i + 1 ≤ c := by omega
  have ti : ((i : Int) + 1).toNat = i + 1 := by omega
  have zi0 : (0 : Int) ≤ (i : Int) + 1 := by omega
  have zi1 : (i : Int) + 1 ≤ (m : Int) := by omega
  have zi2 : (i : Int) ≤ (c : Int) := by omega
  have zi3 : (m : Int) ≤ (c : Int) := by omega
  have zi4 : (i : Int) + 1 ≤ (c : Int) := by omega
  have zi5 : ¬ (i : Int) + 1 < 0 := by omega
  have zi6 : (i : Int) ≤ (i : Int) + 1 := by omega
  have em : i + (m - (i + 1)) = m - 1 := by omega
  go_enter Try.func21, Try.ntmps21
  by_cases hcap : c = i + 1
  · have R4 := hide (fun W => R3.out hcap W)
    clear R3
    subst hcap
    go_wp2_with fail
    refine MJ.wp_region_chain (fun _ => True) [3, 8, 9] [(8, 3), (13, 8), (4, 9)] (woSt w i m l) (by kernel_rfl) (by kernel_rfl) (by simp) ?h0 (fun _ _ _ _ => trivial) ?_
    case h0 => exact ⟨rfl, rfl, rfl, Nat.le_refl _, fun _ _ => rfl⟩
    repeat (refine MJ.lex_calm rfl (by rfl) (fun K hK => ?_); apply Exists.intro; refine ⟨fun W' hW => ?_, ?_⟩; (dsimp only at hW; go_simp; exact rfl); go_simp; refine hK _ ?_; clear hK K)
    refine MJ.lex_chain 0 rfl (by kernel_rfl) rfl ?_ ?_
    · rintro vs W hB
      have hB : Below w.heap.size w W := hB
      refine does_append_any W _ _ 22 rfl w.heap.size 40 it _ 5 40 Try.underlying22 i1 i2 i3 i4 rfl (by decide) (.slice none 0 0) 0 [] rfl (World.ownsRow_nil _ _ _ _) (some ⟨b, off, none⟩) i _ (cnC l) rfl (R1.out W hB) (cn_one l) (by unfold maxLen; omega) (by omega) hB.size ?_
      intro v' w' ho hgr
      refine ⟨?_, Below.by hB (World.ownsRow_nil W w.heap.size 40 5) hgr (Nat.le_refl _) (Nat.le_refl _)⟩
      simpa using ho
    repeat (refine MJ.lex_calm rfl (by rfl) (fun K hK => ?_); apply Exists.intro; refine ⟨fun W' hW => ?_, ?_⟩; (dsimp only at hW; go_simp; exact rfl); go_simp; refine hK _ ?_; clear hK K)
    refine MJ.lex_chain 1 rfl (by kernel_rfl) rfl ?_ ?_
    · rintro vs W ⟨ho1, hB⟩
      refine does_append_any W _ _ 22 rfl w.heap.size 40 it _ 5 40 Try.underlying22 i1 i2 i3 i4 rfl (by decide) (vs 3) i _ rfl ho1 (some ⟨b, off, none⟩) (m - (i + 1)) _ _ (by rw [show m - (i + 1) = 0 by omega]; rfl) (R4.out W) (fun a b => cn_one l _ b) (by unfold maxLen; omega) (by omega) hB.size ?_
      intro v' w' ho hgr
      refine ⟨⟨?_, Below.by hB ho1 hgr (Nat.le_refl _) (Nat.le_refl _)⟩, fun v h => by cases h⟩
      rw [← FW.out, ← em]
      exact ho
    repeat (refine MJ.lex_calm rfl (by rfl) (fun K hK => ?_); apply Exists.intro; refine ⟨fun W' hW => ?_, ?_⟩; (dsimp only at hW; go_simp; exact rfl); go_simp; refine hK _ ?_; clear hK K)
    refine MJ.lex_chain 2 rfl (by kernel_rfl) rfl ?_ ?_
    · rintro vs W hA
      have y := hide hA.1
      clear hA
      simp [go_sem, evS, List.lookup]
      exact ⟨y.out, fun u h => by injection h with h1 h2; exact h1.symm⟩
    refine MJ.lex_nil ?_
    rintro vs W ⟨⟨h1, h2⟩, h3⟩
    have h3 := h3 _ rfl
    replace h3 : vs 9 = vs 8 := h3
    have H1 := hide h1
    have H2 := hide h2
    clear h1 h2
    simp only [fillS, List.foldl_cons, List.foldl_nil, h3]
    clear R1 R2 R4 FW
    go_wp2_with fail
    go_simp
    go_ret
    exact ⟨_, rfl, H1.out, H2.out⟩
  · go_wp2_with fail
    refine MJ.wp_region_chain (fun _ => True) [3, 8, 9] [(8, 3), (13, 8), (4, 9)] (woSt w i m l) (by kernel_rfl) (by kernel_rfl) (by simp) ?h0 (fun _ _ _ _ => trivial) ?_
    case h0 => exact ⟨rfl, rfl, rfl, Nat.le_refl _, fun _ _ => rfl⟩
    repeat (refine MJ.lex_calm rfl (by rfl) (fun K hK => ?_); apply Exists.intro; refine ⟨fun W' hW => ?_, ?_⟩; (dsimp only at hW; go_simp; exact rfl); go_simp; refine hK _ ?_; clear hK K)
    refine MJ.lex_chain 0 rfl (by kernel_rfl) rfl ?_ ?_
    · rintro vs W hB
      have hB : Below w.heap.size w W := hB
      refine does_append_any W _ _ 22 rfl w.heap.size 40 it _ 5 40 Try.underlying22 i1 i2 i3 i4 rfl (by decide) (.slice none 0 0) 0 [] rfl (World.ownsRow_nil _ _ _ _) (some ⟨b, off, none⟩) i _ (cnC l) rfl (R1.out W hB) (cn_one l) (by unfold maxLen; omega) (by omega) hB.size ?_
      intro v' w' ho hgr
      refine ⟨?_, Below.by hB (World.ownsRow_nil W w.heap.size 40 5) hgr (Nat.le_refl _) (Nat.le_refl _)⟩
      simpa using ho
    repeat (refine MJ.lex_calm rfl (by rfl) (fun K hK => ?_); apply Exists.intro; refine ⟨fun W' hW => ?_, ?_⟩; (dsimp only at hW; go_simp; exact rfl); go_simp; refine hK _ ?_; clear hK K)
    refine MJ.lex_chain 1 rfl (by kernel_rfl) rfl ?_ ?_
    · rintro vs W ⟨ho1, hB⟩
      refine does_append_any W _ _ 22 rfl w.heap.size 40 it _ 5 40 Try.underlying22 i1 i2 i3 i4 rfl (by decide) (vs 3) i _ rfl ho1 (some ⟨b, off + (i + 1) * 5, none⟩) (m - (i + 1)) _ _ rfl (R2.out W hB) (fun a b => cn_one l _ b) (by unfold maxLen; omega) (by omega) hB.size ?_
      intro v' w' ho hgr
      refine ⟨⟨?_, Below.by hB ho1 hgr (Nat.le_refl _) (Nat.le_refl _)⟩, fun v h => by cases h⟩
      rw [← FW.out, ← em]
      exact ho
    repeat (refine MJ.lex_calm rfl (by rfl) (fun K hK => ?_); apply Exists.intro; refine ⟨fun W' hW => ?_, ?_⟩; (dsimp only at hW; go_simp; exact rfl); go_simp; refine hK _ ?_; clear hK K)
    refine MJ.lex_chain 2 rfl (by kernel_rfl) rfl ?_ ?_
    · rintro vs W hA
      have y := hide hA.1
      clear hA
      simp [go_sem, evS, List.lookup]
      exact ⟨y.out, fun u h => by injection h with h1 h2; exact h1.symm⟩
    refine MJ.lex_nil ?_
    rintro vs W ⟨⟨h1, h2⟩, h3⟩
    have h3 := h3 _ rfl
    replace h3 : vs 9 = vs 8 := h3
    have H1 := hide h1
    have H2 := hide h2
    clear h1 h2
    simp only [fillS, List.foldl_cons, List.foldl_nil, h3]
    clear R1 R2 R3 FW
    go_wp2_with fail
    go_simp
    go_ret
    exact ⟨_, rfl, H1.out, H2.out⟩
/-! ### The copy of a list with one more element, alone -/
structure IcM (w1 : World) (m : Nat) (l : Nat → Cn) (x : Cn) (D : Nat → Bool) (vs : Nat → Value) (W : World) : Prop where
  bl : Below w1.heap.size w1 W
  hd : HdM w1 m l x 1 5 6 7 D vs W
  fin : D 7 = true → W.ownsRow w1.heap.size 40 5 (vs 7) (m + 1) (flat (m + 1) 5 (cnC (upd l m x)))
theorem IcM.ext {w1 W : World} {m : Nat} {l : Nat → Cn} {x : Cn} {D D' : Nat → Bool} {vs vs' : Nat → Value} (h : IcM w1 m l x D vs W) (hD : ∀ b ∈ [1, 5, 6, 7], D b = D' b ∧ (D b = true → vs b = vs' b)) : IcM w1 m l x D' vs' W := by
  obtain ⟨a7, b7⟩ := hD 7 (by simp)
  exact ⟨h.bl, h.hd.ext fun b hb => hD b (by simp at hb ⊢; omega), fun q => by rw [← b7 (a7.trans q)]; exact h.fin (a7.trans q)⟩
/-! ### The call of Add, its results stored -/
structure A4H (w1 : World) (sk : Nat) (vars : Int) (m : Nat) (l : Nat → Cn) (D : Nat → Bool) (vs : Nat → Value) (W : World) : Prop where
  h0 : D 4 = false → Below w1.heap.size w1 W
  h4 : D 4 = true → D 5 = false → SoF vars m l w1 (.returned (vs 4)) W ∧ Blk W sk 26 [.int .i64 0, .slice none 0 0, .slice none 0 0, .slice none 0 0]
theorem A4H.done {w1 W : World} {sk : Nat} {vars : Int} {m : Nat} {l : Nat → Cn} {D : Nat → Bool} {vs : Nat → Value} (h5 : D 5 = true) (h4 : D 4 = true) : A4H w1 sk vars m l D vs W :=
  ⟨fun q => by rw [h4] at q; exact Bool.noConfusion q, fun _ q => by rw [h5] at q; exact Bool.noConfusion q⟩
structure A4M (w w1 : World) (sk : Nat) (vars : Int) (m : Nat) (l : Nat → Cn) (D : Nat → Bool) (vs : Nat → Value) (W : World) : Prop where
  kp : Kept sk w1 W
  hd : A4H w1 sk vars m l D vs W
  tl : TlM w w1 sk vars m l 5 6 7 8 9 D vs W
theorem A4M.ext {w w1 W : World} {sk : Nat} {vars : Int} {m : Nat} {l : Nat → Cn} {D D' : Nat → Bool} {vs vs' : Nat → Value} (h : A4M w w1 sk vars m l D vs W) (hD : ∀ b ∈ [4, 5, 6, 7, 8, 9], D b = D' b ∧ (D b = true → vs b = vs' b)) : A4M w w1 sk vars m l D' vs' W := by
  obtain ⟨a4, b4⟩ := hD 4 (by simp)
  obtain ⟨a5, b5⟩ := hD 5 (by simp)
  exact ⟨h.kp, ⟨fun q => h.hd.h0 (a4.trans q), fun q r => by rw [← b4 (a4.trans q)]; exact h.hd.h4 (a4.trans q) (a5.trans r)⟩, h.tl.ext fun b hb => hD b (by simp at hb ⊢; omega)⟩
/-- The first blocks of a world. -/
def preW (W : World) (k : Nat) : World := { W with heap := W.heap.extract 0 k }
theorem preW_size {W : World} {k : Nat} (h : k ≤ W.heap.size) : (preW W k).heap.size = k := by simp [preW]; omega
theorem preW_below {W : World} {k : Nat} (h : k ≤ W.heap.size) : Below (preW W k).heap.size (preW W k) W := by
  refine ⟨rfl, rfl, rfl, by rw [preW_size h]; exact h, fun i hi => ?_⟩
  rw [preW_size h] at hi
  show W.heap[i]? = (W.heap.extract 0 k)[i]?
  rw [Array.getElem?_extract, if_pos (by omega), Nat.zero_add]
theorem sof_form {nv m : Nat} {l : Nat → Cn} {wB W : World} {v0 er : Int} {q1 q2 q3 : Option Addr} {n1 c1 n2 c2 n3 c3 : Nat} (h : SoF (nv : Int) m l wB (.returned (.tuple #[sysV v0 q1 n1 c1 q2 n2 c2 q3 n3 c3, .int .i64 er])) W) :
    (erS (nv : Int) m l = 0 ∧ v0 = nv ∧ m = n1 ∧ m = n2 ∧ nv = n3 ∧ er = 0 ∧ m ≤ c1 ∧ SRow W q1 m 5 (cnC l) ∧ BReads W q2 m (acB nv m l 3) ∧ Reads W q3 nv (lvF nv m l (acB nv m l 3)) ∧ (∀ ad, q1 = some ad → wB.heap.size ≤ ad.block) ∧ (∀ ad, q2 = some ad → wB.heap.size ≤ ad.block) ∧ (0 < nv → ∀ ad, q3 = some ad → wB.heap.size ≤ ad.block)) ∨
    (¬ erS (nv : Int) m l = 0 ∧ er = erS (nv : Int) m l ∧ v0 = 0 ∧ (q1 = none ∧ n1 = 0 ∧ c1 = 0) ∧ (q2 = none ∧ n2 = 0 ∧ c2 = 0) ∧ q3 = none ∧ n3 = 0 ∧ c3 = 0) := by
  by_cases h0 : erS (nv : Int) m l = 0
  · left
    obtain ⟨p1, d1, p2, d2, p3, d3, e, h1, h2, h3, h4, f1, f2, f3⟩ := h.1 h0
    rw [Int.toNat_natCast] at *
    simp at e
    obtain ⟨⟨rfl, ⟨rfl, rfl, rfl⟩, ⟨rfl, rfl, rfl⟩, rfl, rfl, rfl⟩, rfl⟩ := e
    exact ⟨h0, rfl, rfl, rfl, rfl, rfl, h1, h2, h3, h4, f1, f2, f3⟩
  · right
    have e := h.2.1 h0
    simp at e
    obtain ⟨⟨rfl, ⟨rfl, rfl, rfl⟩, ⟨rfl, rfl, rfl⟩, rfl, rfl, rfl⟩, e2⟩ := e
    exact ⟨h0, e2, rfl, ⟨rfl, rfl, rfl⟩, ⟨rfl, rfl, rfl⟩, rfl, rfl, rfl⟩
/-! ### What the law keeps in memory: all but two blocks -/
def Agr (sb s5 : Nat) (W W' : World) : Prop := W.heap.size ≤ W'.heap.size ∧ ∀ k, k < W.heap.size → k ≠ sb → k ≠ s5 → W'.heap[k]? = W.heap[k]?
theorem Agr.refl (sb s5 : Nat) (W : World) : Agr sb s5 W W := ⟨Nat.le_refl _, fun _ _ _ _ => rfl⟩
theorem Agr.trans {sb s5 : Nat} {a b c : World} (h : Agr sb s5 a b) (k : Agr sb s5 b c) : Agr sb s5 a c := ⟨Nat.le_trans h.1 k.1, fun i hi h1 h2 => (k.2 i (Nat.lt_of_lt_of_le hi h.1) h1 h2).trans (h.2 i hi h1 h2)⟩
theorem Agr.below {sb s5 : Nat} {a b c : World} (h : Agr sb s5 a b) (k : Below b.heap.size b c) : Agr sb s5 a c := h.trans ⟨k.size, fun i hi _ _ => k.block i hi⟩
theorem Agr.but {sb s5 : Nat} {a b c : World} (h : Agr sb s5 a b) (k : But sb b c) : Agr sb s5 a c := h.trans ⟨k.size, fun i hi h1 _ => k.block i hi h1⟩
theorem Agr.kept {sb s5 sk : Nat} {a b c : World} (h : Agr sb s5 a b) (k : Kept sk b c) (hs : a.heap.size ≤ sk) : Agr sb s5 a c := ⟨Nat.le_trans h.1 k.size, fun i hi h1 h2 => (k.block i (Nat.lt_of_lt_of_le hi h.1) (by omega)).trans (h.2 i hi h1 h2)⟩
/-- Facts on memory that stay right when these two blocks are written. -/
def Stb (sb s5 : Nat) (W : World) (F : World → Prop) : Prop := ∀ W', Agr sb s5 W W' → F W'
theorem Stb.mono {sb s5 : Nat} {W W' : World} {F : World → Prop} (h : Stb sb s5 W F) (k : Agr sb s5 W W') : Stb sb s5 W' F := fun W2 h2 => h W2 (k.trans h2)
theorem agr_cell {sb s5 : Nat} {W W' : World} (h : Agr sb s5 W W') {b o : Nat} (hb : b < W.heap.size) (h1 : b ≠ sb) (h2 : b ≠ s5) : W'.cell? ⟨b, o, none⟩ = W.cell? ⟨b, o, none⟩ := by
  unfold World.cell?
  rw [h.2 b hb h1 h2]
theorem SRow.stb {sb s5 B : Nat} {W : World} {q : Option Addr} {n k : Nat} {f : Nat → Nat → Value} (h : SRow W q n k f) (hq : ∀ ad, q = some ad → B ≤ ad.block) (hsb : sb < B) (hs5 : s5 < B ∨ W.heap.size ≤ s5) : Stb sb s5 W (fun W' => SRow W' q n k f) := fun W' ha hn => by
  obtain ⟨b, off, e, hb, hc⟩ := h hn
  have n1 := hq _ e
  dsimp only at n1
  exact ⟨b, off, e, Nat.lt_of_lt_of_le hb ha.1, fun i hi j hj => (agr_cell ha hb (by omega) (by omega)).trans (hc i hi j hj)⟩
theorem BReads.stb {sb s5 B : Nat} {W : World} {q : Option Addr} {n : Nat} {f : Nat → Bool} (h : BReads W q n f) (hq : ∀ ad, q = some ad → B ≤ ad.block) (hsb : sb < B) (hs5 : s5 < B ∨ W.heap.size ≤ s5) : Stb sb s5 W (fun W' => BReads W' q n f) := fun W' ha hn => by
  obtain ⟨b, off, e, hb, hc⟩ := h hn
  have n1 := hq _ e
  dsimp only at n1
  exact ⟨b, off, e, Nat.lt_of_lt_of_le hb ha.1, fun k hk => (agr_cell ha hb (by omega) (by omega)).trans (hc k hk)⟩
theorem Reads.stb {sb s5 B : Nat} {W : World} {q : Option Addr} {n : Nat} {f : Nat → Int} (h : Reads W q n f) (hq : 0 < n → ∀ ad, q = some ad → B ≤ ad.block) (hsb : sb < B) (hs5 : s5 < B ∨ W.heap.size ≤ s5) : Stb sb s5 W (fun W' => Reads W' q n f) := fun W' ha hn => by
  obtain ⟨b, off, e, hc⟩ := h hn
  have n1 := hq hn _ e
  dsimp only at n1
  have hb : b < W.heap.size := World.block_lt_of_cell? _ _ (hc 0 hn)
  exact ⟨b, off, e, fun k hk => (agr_cell ha hb (by omega) (by omega)).trans (hc k hk)⟩
/-- A system's rows and the law's own list, in one. -/
def SysF (n m : Nat) (l : Nat → Cn) (q1 q2 q3 pn : Option Addr) (W : World) : Prop := SRow W q1 m 5 (cnC l) ∧ BReads W q2 m (acB n m l 3) ∧ Reads W q3 n (lvF n m l (acB n m l 3)) ∧ SRow W pn m 5 (cnC l)
theorem sys_stb {sb s5 n m B : Nat} {l : Nat → Cn} {q1 q2 q3 pn : Option Addr} {W : World} (h : SysF n m l q1 q2 q3 pn W) (h1 : ∀ ad, q1 = some ad → B ≤ ad.block) (h2 : ∀ ad, q2 = some ad → B ≤ ad.block) (h3 : 0 < n → ∀ ad, q3 = some ad → B ≤ ad.block) (h4 : ∀ ad, pn = some ad → B ≤ ad.block) (hsb : sb < B) (hs5 : s5 < B ∨ W.heap.size ≤ s5) : Stb sb s5 W (SysF n m l q1 q2 q3 pn) :=
  fun W' ha => ⟨h.1.stb h1 hsb hs5 W' ha, h.2.1.stb h2 hsb hs5 W' ha, h.2.2.1.stb h3 hsb hs5 W' ha, h.2.2.2.stb h4 hsb hs5 W' ha⟩
theorem agr_sets {sb s5 : Nat} {a W : World} (h : Agr sb s5 a W) {sk : Nat} (hs : sk = s5 ∨ a.heap.size ≤ sk) (x y c d : Value) : Agr sb s5 a ((((W.setCell ⟨sk, 0, none⟩ x).setCell ⟨sk, 1, none⟩ y).setCell ⟨sk, 2, none⟩ c).setCell ⟨sk, 3, none⟩ d) := by
  have one : ∀ (V : World) (o : Nat) (u : Value), Agr sb s5 a V → Agr sb s5 a (V.setCell ⟨sk, o, none⟩ u) := fun V o u hV =>
    ⟨by rw [show (V.setCell ⟨sk, o, none⟩ u).heap.size = V.heap.size by simp [World.setCell]]; exact hV.1, fun k hk h1 h2 => (heap_setCell_other V ⟨sk, o, none⟩ k u (by show k ≠ sk; omega)).trans (hV.2 k hk h1 h2)⟩
  exact one _ _ _ (one _ _ _ (one _ _ _ (one _ _ _ h)))
theorem blk_sets {W : World} {b sk : Nat} {T : TypeId} {vs : List Value} (h : Blk W b T vs) (hn : b ≠ sk) (x y c d : Value) : Blk ((((W.setCell ⟨sk, 0, none⟩ x).setCell ⟨sk, 1, none⟩ y).setCell ⟨sk, 2, none⟩ c).setCell ⟨sk, 3, none⟩ d) b T vs :=
  (((h.other hn x).other hn y).other hn c).other hn d
end Go.Proofs.Ytdoncogkepopiaa
