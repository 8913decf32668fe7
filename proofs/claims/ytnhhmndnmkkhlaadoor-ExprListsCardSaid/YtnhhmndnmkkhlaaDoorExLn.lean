/- operate at lists of ints: concat, item, drop. -/
import Derived.Test.YtnhhmndnmkkhlaaDoorExLm
namespace Go.Proofs.YtnhhmndnmkkhlaaDoor
open Go.RowKit Go.Sort
set_option linter.unusedVariables false
set_option linter.unusedSimpArgs false

theorem TwoLI.gen {w : World} {p q : Option Addr} {m cq : Nat} {n1 : Int} (h : TwoLI w p q m cq n1) : TwoG w p 4 0 q m cq 1 n1 none 0 0 := h
theorem TwoLL.gen {w : World} {p q q' : Option Addr} {m cq m' cq' : Nat} (h : TwoLL w p q m cq q' m' cq') : TwoG w p 4 0 q m cq 4 0 q' m' cq' := h
/-- A row of the call's own: M ints, above the block B. -/
def OwnL (B M : Nat) (G : Nat → Int) (p : Option Addr) (m c : Nat) (W : World) : Prop := m = M ∧ ∃ base, B < base ∧ W.ownsRow base 24 4 (.slice p m c) M (vcs G M)
theorem OwnL.grew {B M : Nat} {G : Nat → Int} (p : Option Addr) (m c : Nat) (w w' : World) (h : OwnL B M G p m c w) (g : Grew w w') : OwnL B M G p m c w' := by
  obtain ⟨h0, base, h1, h2⟩ := h
  exact ⟨h0, base, h1, own_grew h2 g⟩
theorem OwnL.set {B M : Nat} {G : Nat → Int} (p : Option Addr) (m c : Nat) (w : World) (o : Nat) (x : Value) (h : OwnL B M G p m c w) : OwnL B M G p m c (w.setCell ⟨B, o, none⟩ x) := by
  obtain ⟨h0, base, h1, h2⟩ := h
  exact ⟨h0, base, h1, own_set h2 h1 _ _⟩
theorem OwnL.row {B M : Nat} {G : Nat → Int} {p : Option Addr} {m c : Nat} {w : World} (h : OwnL B M G p m c w) : Row w w.heap.size p m (fun i => nd 1 (G i)) ∧ m ≤ c := by
  obtain ⟨rfl, base, h1, h2⟩ := h
  obtain ⟨p', c', e, h3, h4⟩ := own_row h2
  simp only [Value.slice.injEq, true_and] at e
  obtain ⟨rfl, rfl⟩ := e
  exact ⟨h4, h3⟩
theorem cm01 (m : Nat) : cmK m = 0 ∨ cmK m = 1 := by unfold cmK; split <;> simp
theorem cm_fit (m n : Nat) : cmK m = 0 ∨ cmK n = 0 ∨ cmK m = cmK n := by
  rcases cm01 m with h | h <;> rcases cm01 n with h' | h' <;> simp [h, h']

theorem operate_cat (p q0 q1 : Option Addr) (c m0 n0 m1 n1 : Nat) (g0 g1 : Nat → Int) (w : World) (h : TwoLL w p q0 m0 n0 q1 m1 n1) (hm : m0 + m1 ≤ 100) (hq0 : Plain q0) (hq1 : Plain q1)
    (hr0 : Row w w.heap.size q0 m0 (fun i => nd 1 (g0 i))) (hr1 : Row w w.heap.size q1 m1 (fun i => nd 1 (g1 i))) (hg0 : ∀ i, i < m0 → nuB (g0 i) = true) (hg1 : ∀ i, i < m1 → nuB (g1 i) = true) (hG : ∀ i, i < m0 + m1 → nuB (catG g0 g1 m0 i) = true) :
    Calls Tryd.prog 60 #[.int .i64 16, .slice p 2 c] w fun e w' => ∃ pr mr cr, e = .returned (.tuple #[lsV pr mr cr, .int .i64 0]) ∧ OwnL w.heap.size (m0 + m1) (catG g0 g1 m0) pr mr cr w' ∧ Grew w w' := by
  refine operate_ok 16 4 0 4 0 1 (cmK m0) 1 (cmK m1) 4 0 p q0 q1 c m0 n0 m1 n1 (OwnL w.heap.size (m0 + m1) (catG g0 g1 m0)) w h.gen
    (fun W g => hide (typeOf_ls q0 m0 n0 g0 W (by omega) ((hr0.below g.1).mono g.size) hg0)) (fun W g => hide (typeOf_ls q1 m1 n1 g1 W (by omega) ((hr1.below g.1).mono g.size) hg1))
    (fun W b hb => hide (fits_ll _ _ b 2 W (cm_fit m0 m1) hb)) (fun W g hl => hide ?_) (fun W pr mr cr D => hide ?_) OwnL.grew OwnL.set
  · refine (apply_cat p q0 q1 c m0 n0 m1 n1 g0 g1 W (h.grew g) (by omega) (by omega) hq0 hq1 ((hr0.below g.1).mono g.size) ((hr1.below g.1).mono g.size)).mono ?_
    rintro e w' ⟨base, p2, c2, hb, rfl, own, gg⟩
    exact ⟨p2, _, c2, rfl, ⟨rfl, base, Nat.lt_of_lt_of_le hl hb, own⟩, gg⟩
  · have hR := D.row.1
    obtain ⟨rfl, -⟩ := D
    exact Check_ls pr _ cr _ W hm hR hG

theorem operate_item (p q : Option Addr) (c m cq : Nat) (g : Nat → Int) (k : Nat) (w : World) (h : TwoLI w p q m cq (k : Int)) (hm : m ≤ 100) (hk : k < m) (hkn : nuB (k : Int) = true)
    (hr : Row w w.heap.size q m (fun i => nd 1 (g i))) (hg : ∀ i, i < m → nuB (g i) = true) :
    Calls Tryd.prog 60 #[.int .i64 20, .slice p 2 c] w fun e w' => e = .returned (.tuple #[nv 1 (g k), .int .i64 0]) ∧ Grew w w' := by
  refine (operate_ok 20 4 0 1 k 1 (cmK m) 0 1 1 (g k) p q none c m cq 0 0 (fun a b c _ => a = none ∧ b = 0 ∧ c = 0) w h.gen
    (fun W g' => hide (typeOf_ls q m cq g W (by omega) ((hr.below g'.1).mono g'.size) hg)) (fun W g' => hide ?_)
    (fun W b hb => hide (fits_li 20 _ b 2 W (.inl rfl) hb)) (fun W g' hl => hide ?_) (fun W pr mr cr D => hide ?_) (fun _ _ _ _ _ h _ => h) (fun _ _ _ _ _ _ h => h)).mono ?_
  · have := typeOf_lf 1 k W (.inl ⟨rfl, hkn⟩)
    rwa [show ckE 1 k = 0 by simp [ckE, hkn], show ckT 1 k = 1 by simp [ckT, hkn]] at this
  · refine (apply_pick20 k 1 (g k) 0 p q c m cq (fun L _ => L = .slice none 0 0) W (h.grew g') (fun _ _ _ h _ => h) (fun L W h => ⟨_, _, _, h⟩) (fun _ _ _ _ h => h) (fun W' g2 _ => hide ?_)).mono ?_
    · refine (pick_item q m cq g k W' (by omega) hk ((hr.below (g'.trans g2).1).mono (g'.trans g2).size)).mono ?_
      rintro e w' ⟨rfl, gg⟩
      exact ⟨_, rfl, rfl, gg⟩
    · rintro e w' ⟨L, rfl, rfl, gg⟩
      exact ⟨none, 0, 0, rfl, ⟨rfl, rfl, rfl⟩, gg⟩
  · obtain ⟨rfl, rfl, rfl⟩ := D
    have := Check_lf 1 (g k) W (.inl ⟨rfl, hg k hk⟩)
    rwa [show ckE 1 (g k) = 0 by simp [ckE, hg k hk]] at this
  · rintro e w' ⟨pr, mr, cr, rfl, ⟨rfl, rfl, rfl⟩, gg⟩
    exact ⟨rfl, gg⟩

theorem operate_drop (p q : Option Addr) (c m cq : Nat) (g : Nat → Int) (k : Nat) (w : World) (h : TwoLI w p q m cq (k : Int)) (hm : m ≤ 100) (hk : k < m) (hkn : nuB (k : Int) = true) (hmc : m ≤ cq) (hc9 : cq ≤ 9223372036854775807)
    (hr : Row w w.heap.size q m (fun i => nd 1 (g i))) (hg : ∀ i, i < m → nuB (g i) = true) (hG : ∀ i, i < k + (m - (k + 1)) → nuB (dropG g k i) = true) :
    Calls Tryd.prog 60 #[.int .i64 21, .slice p 2 c] w fun e w' => ∃ pr mr cr, e = .returned (.tuple #[lsV pr mr cr, .int .i64 0]) ∧ OwnL w.heap.size (k + (m - (k + 1))) (dropG g k) pr mr cr w' ∧ Grew w w' := by
  refine operate_ok 21 4 0 1 k 1 (cmK m) 0 1 4 0 p q none c m cq 0 0 (OwnL w.heap.size (k + (m - (k + 1))) (dropG g k)) w h.gen
    (fun W g' => hide (typeOf_ls q m cq g W (by omega) ((hr.below g'.1).mono g'.size) hg)) (fun W g' => hide ?_)
    (fun W b hb => hide (fits_li 21 _ b 2 W (.inr rfl) hb)) (fun W g' hl => hide ?_) (fun W pr mr cr D => hide ?_) OwnL.grew OwnL.set
  · have := typeOf_lf 1 k W (.inl ⟨rfl, hkn⟩)
    rwa [show ckE 1 k = 0 by simp [ckE, hkn], show ckT 1 k = 1 by simp [ckT, hkn]] at this
  · refine (apply_pick21 k 4 0 0 p q c m cq (fun L x => ∃ a b d, L = .slice a b d ∧ OwnL W.heap.size (k + (m - (k + 1))) (dropG g k) a b d x) W (h.grew g') (fun L x y hL g3 => ?_) (fun L x hL => ?_) (fun L x o u hL => ?_) (fun W' g2 hl2 => hide ?_)).mono ?_
    · obtain ⟨a, b, d, h1, h2⟩ := hL
      exact ⟨a, b, d, h1, h2.grew _ _ _ _ _ g3⟩
    · obtain ⟨a, b, d, h1, h2⟩ := hL
      exact ⟨a, b, d, h1⟩
    · obtain ⟨a, b, d, h1, h2⟩ := hL
      exact ⟨a, b, d, h1, h2.set _ _ _ _ _ _⟩
    · refine (pick_drop q m cq g k W' (by omega) hk hmc hc9 ((hr.below (g'.trans g2).1).mono (g'.trans g2).size)).mono ?_
      rintro e w' ⟨base, p', c', hb, rfl, own, gg⟩
      exact ⟨_, rfl, ⟨_, _, _, rfl, rfl, base, Nat.lt_of_lt_of_le hl2 hb, own⟩, gg⟩
    · rintro e w' ⟨L, rfl, ⟨a, b, d, rfl, h0, base, hb, own⟩, gg⟩
      exact ⟨a, b, d, rfl, ⟨h0, base, Nat.lt_trans hl hb, own⟩, gg⟩
  · have hR := D.row.1
    obtain ⟨rfl, -⟩ := D
    exact Check_ls pr _ cr _ W (by omega) hR hG

theorem operate_out (op : Int) (hop : op = 20 ∨ op = 21) (p q : Option Addr) (c m cq : Nat) (g : Nat → Int) (k : Int) (w : World) (h : TwoLI w p q m cq k) (hm : m ≤ 100) (hk : (m : Int) ≤ k) (hkn : nuB k = true)
    (hr : Row w w.heap.size q m (fun i => nd 1 (g i))) (hg : ∀ i, i < m → nuB (g i) = true) :
    Calls Tryd.prog 60 #[.int .i64 op, .slice p 2 c] w fun e w' => e = .returned (.tuple #[nv 0 0, .int .i64 1]) ∧ Grew w w' := by
  refine operate_err op 4 0 1 k 1 (cmK m) 0 1 0 0 1 p q none c m cq 0 0 (fun a b c _ => a = none ∧ b = 0 ∧ c = 0) w h.gen
    (fun W g' => hide (typeOf_ls q m cq g W (by omega) ((hr.below g'.1).mono g'.size) hg)) (fun W g' => hide ?_)
    (fun W b hb => hide (fits_li op _ b 2 W hop hb)) (fun W g' hl => hide ?_) (by omega)
  · have := typeOf_lf 1 k W (.inl ⟨rfl, hkn⟩)
    rwa [show ckE 1 k = 0 by simp [ckE, hkn], show ckT 1 k = 1 by simp [ckT, hkn]] at this
  · have key : ∀ W', Hid (Calls Tryd.prog 85 #[.int .i64 op, .slice q m cq, .int .i64 k] W' fun e w' => ∃ L, e = .returned (.tuple #[.agg #[.int .i64 0, .int .i64 0, .string ⟨#[]⟩, L], .int .i64 1]) ∧ L = .slice none 0 0 ∧ Grew W' w') := fun W' => hide (by
      refine (pick_out op q m cq k W' (by omega) (.inr hk)).mono ?_
      rintro e w' ⟨rfl, gg⟩
      exact ⟨_, rfl, rfl, gg⟩)
    have fin : ∀ e w', (∃ L, e = Ending.returned (.tuple #[.agg #[.int .i64 0, .int .i64 0, .string ⟨#[]⟩, L], .int .i64 1]) ∧ L = .slice none 0 0 ∧ Grew W w') → ∃ pr mr cr, e = Ending.returned (.tuple #[.agg #[.int .i64 0, .int .i64 0, .string ⟨#[]⟩, .slice pr mr cr], .int .i64 1]) ∧ (pr = none ∧ mr = 0 ∧ cr = 0) ∧ Grew W w' := by
      rintro e w' ⟨L, rfl, rfl, gg⟩
      exact ⟨none, 0, 0, rfl, ⟨rfl, rfl, rfl⟩, gg⟩
    rcases hop with rfl | rfl
    · exact (apply_pick20 k 0 0 1 p q c m cq (fun L _ => L = .slice none 0 0) W (h.grew g') (fun _ _ _ h _ => h) (fun L W h => ⟨_, _, _, h⟩) (fun _ _ _ _ h => h) (fun W' _ _ => key W')).mono fin
    · exact (apply_pick21 k 0 0 1 p q c m cq (fun L _ => L = .slice none 0 0) W (h.grew g') (fun _ _ _ h _ => h) (fun L W h => ⟨_, _, _, h⟩) (fun _ _ _ _ h => h) (fun W' _ _ => key W')).mono fin
end Go.Proofs.YtnhhmndnmkkhlaaDoor
