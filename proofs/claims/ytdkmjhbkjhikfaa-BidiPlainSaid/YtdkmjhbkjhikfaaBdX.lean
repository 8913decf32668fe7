/- The rules W4 to W7 on a sequence of simple classes: what stays, what may become of the others. -/
import Derived.Test.YtdkmjhbkjhikfaaBdB
import Derived.Deep.QuietTactic
import Derived.BigQuiet
namespace Go.Proofs.Ytdkmjhbkjhikfaa
open Go.RowKit Go.Sort
set_option linter.unusedVariables false
set_option linter.unusedSimpArgs false

/-- Behind W4. -/
def P1 (n : Nat) (g f : Nat → Int) : Prop := ∀ j, j < n → (g j ≠ 7 → f j = g j) ∧ (g j = 7 → f j = 7 ∨ f j = 3)
structure St (cb c n : Nat) (w wr : World) (f : Nat → Int) : Prop where
  but : But cb w wr
  row : CRow wr cb c n f
theorem St.set_ {cb c n : Nat} {w wr : World} {f : Nat → Int} (h : St cb c n w wr f) {k : Nat} (hk : k < n) (v : Int) : St cb c n w (wr.setCell ⟨cb, k, none⟩ (.int .i64 v)) (fun j => if j = k then v else f j) :=
  ⟨h.but.setCell rfl _, h.row.set_ hk v⟩
theorem St.drewN {cb c n : Nat} {w wr : World} {f : Nat → Int} (h : St cb c n w wr f) (q : Nat) : St cb c n w (wr.drewN q) f := ⟨h.but.drewN q, h.row.same rfl⟩

theorem P1.step {n k : Nat} {g f : Nat → Int} (h : P1 n g f) (h7 : f k = 7) : P1 n g (fun j => if j = k then 3 else f j) := fun j hj => by
  obtain ⟨h1, h2⟩ := h j hj
  show (_ → (if j = k then 3 else f j) = _) ∧ (_ → (if j = k then 3 else f j) = 7 ∨ (if j = k then 3 else f j) = 3)
  by_cases e : j = k
  · subst e
    rw [if_pos rfl]
    by_cases e7 : g j = 7
    · exact ⟨fun h => absurd e7 h, fun _ => Or.inr rfl⟩
    · have := h1 e7; exact absurd (this ▸ h7) e7
  · rw [if_neg e]; exact ⟨h1, h2⟩
theorem P1.val {n k : Nat} {g f : Nat → Int} (hs : ∀ k, k < n → Sm (g k)) (h : P1 n g f) (hk : k < n) : f k = 0 ∨ f k = 1 ∨ f k = 3 ∨ f k = 7 ∨ f k = 12 := by
  obtain ⟨h1, h2⟩ := h k hk
  have := hs k hk
  unfold Sm at this
  by_cases e7 : g k = 7
  · rcases h2 e7 with e | e <;> rw [e] <;> omega
  · rw [h1 e7]; omega

set_option maxHeartbeats 4000000 in
theorem seps_any (sb cb c gb d n : Nat) (vr vt : Value) (lev st en : Int) (g : Nat → Int) (w : World) (H : SeqAt w sb cb c gb d n vr vt lev st en g g) (hs : ∀ k, k < n → Sm (g k)) (hn : n ≤ 100000) :
    Calls Try.prog 70 #[.pointer (some ⟨sb, 0, none⟩)] w fun e w' => e = .returned (.tuple #[]) ∧ ∃ f, St cb c n w w' f ∧ P1 n g f := by
  have S0 : Hid (St cb c n w w g ∧ P1 n g g) := ⟨⟨But.refl _ _, H.cls⟩, fun j _ => ⟨fun _ => rfl, fun h => Or.inl h⟩⟩
  have HB := hide H.blk
  have NE := H.ne1
  have b3 := H.blk.cell 3 rfl
  have HS := hide hs
  clear H hs
  go_enter Try.func70, Try.ntmps70
  go_wp2
  clear b3
  go_loopg [2] (n + 1) (fun gh vk wr => ∃ (m : Nat) (f : Nat → Int), vk = .int .i64 ((m : Int) + 1) ∧ (m + 1 ≤ n ∨ m = 0) ∧ n - m < gh ∧ Hid (St cb c n w wr f ∧ P1 n g f))
  case atStart => exact ⟨0, g, by go_num, Or.inr rfl, by omega, S0⟩
  case round =>
    clear S0
    obtain ⟨wo, rfl⟩ : ∃ wo : World, wo = wr := ⟨_, rfl⟩
    obtain ⟨m, f, rfl, hm, hg, S⟩ := hrel
    have b3 := (S.out.1.but.blk HB.out NE).cell 3 rfl
    by_cases hlt : m + 2 < n
    · have hltz : (m : Int) + 1 + 1 < (n : Int) := by omega
      have hlt1 : (m : Int) + 1 < (n : Int) := by omega
      have hlt0 : (m : Int) < (n : Int) := by omega
      have ca := S.out.1.row.cell (i := m) (by omega)
      have cb1 := S.out.1.row.cell (i := m + 1) (by omega)
      have cd := S.out.1.row.cell (i := m + 2) (by omega)
      have fz := S.out.1.row.frozen (m + 1)
      have va := S.out.2.val HS.out (k := m) (by omega)
      have vb := S.out.2.val HS.out (k := m + 1) (by omega)
      have vd := S.out.2.val HS.out (k := m + 2) (by omega)
      have S1 := hide (fun q => S.out.1.drewN q)
      have P := hide S.out.2
      have NXT : Hid (∀ q, St cb c n w (wo.drewN q) f ∧ P1 n g f) := fun q => ⟨S.out.1.drewN q, S.out.2⟩
      by_cases ea : f m = 3
      · rw [ea] at ca
        by_cases eb : f (m + 1) = 7
        · rw [eb] at cb1
          by_cases ed : f (m + 2) = 3
          · rw [ed] at cd
            have NX2 : Hid (∀ q, St cb c n w ((wo.drewN q).setCell ⟨cb, m + 1, none⟩ (.int .i64 3)) (fun j => if j = m + 1 then 3 else f j) ∧ P1 n g (fun j => if j = m + 1 then 3 else f j)) := fun q => ⟨(S.out.1.drewN q).set_ (by omega) 3, S.out.2.step eb⟩
            clear va vb vd ea eb ed NXT S S1 P
            go_wp2
            go_quiet (fail)
            go_wp2
            go_roundg (n - m)
            case measure => omega
            case rel => exact ⟨m + 1, _, by go_num, by omega, by omega, hide (NX2.out _)⟩
          · obtain ⟨x, ex⟩ : ∃ x, x = f (m + 2) := ⟨_, rfl⟩
            rw [← ex] at cd
            have x1 : ¬ (3 : Int) = x := by omega
            clear va vb vd ea eb ed ex S S1 P
            go_wp2
            go_quiet (fail)
            go_wp2
            go_roundg (n - m)
            case measure => omega
            case rel => exact ⟨m + 1, _, by go_num, by omega, by omega, hide (NXT.out _)⟩
        · obtain ⟨x, ex⟩ : ∃ x, x = f (m + 1) := ⟨_, rfl⟩
          rw [← ex] at cb1
          have x1 : ¬ x = 4 := by omega
          have x2 : ¬ x = 7 := by omega
          clear va vb vd ea eb ex S S1 P
          go_wp2
          go_quiet (fail)
          go_wp2
          go_roundg (n - m)
          case measure => omega
          case rel => exact ⟨m + 1, _, by go_num, by omega, by omega, hide (NXT.out _)⟩
      · obtain ⟨x, ex⟩ : ∃ x, x = f m := ⟨_, rfl⟩
        rw [← ex] at ca
        have x1 : ¬ x = 3 := by omega
        have x2 : ¬ x = 6 := by omega
        clear va vb vd ea ex S S1 P
        go_wp2
        go_quiet (fail)
        go_wp2
        go_roundg (n - m)
        case measure => omega
        case rel => exact ⟨m + 1, _, by go_num, by omega, by omega, hide (NXT.out _)⟩
    · have hltz : ¬ (m : Int) + 1 + 1 < (n : Int) := by omega
      go_wp2
      go_end0
      exact ⟨rfl, f, S.out.1, S.out.2⟩

/-- Behind W5 and W6. -/
def P2 (n : Nat) (g f : Nat → Int) : Prop := ∀ j, j < n → (g j ≠ 7 → f j = g j) ∧ (g j = 7 → f j = 13 ∨ f j = 3)
/-- Half way. -/
def P12 (n k : Nat) (g f : Nat → Int) : Prop := ∀ j, j < n → (g j ≠ 7 → f j = g j) ∧ (g j = 7 → f j = 3 ∨ (j < k ∧ f j = 13) ∨ (k ≤ j ∧ f j = 7))
theorem P12.val {n k i : Nat} {g f : Nat → Int} (hs : ∀ k, k < n → Sm (g k)) (h : P12 n k g f) (hk : i < n) (hi : k ≤ i) : f i = 0 ∨ f i = 1 ∨ f i = 3 ∨ f i = 7 ∨ f i = 12 := by
  obtain ⟨h1, h2⟩ := h i hk
  have := hs i hk
  unfold Sm at this
  by_cases e7 : g i = 7
  · rcases h2 e7 with e | ⟨e, e'⟩ | ⟨e, e'⟩
    · rw [e]; omega
    · omega
    · rw [e']; omega
  · rw [h1 e7]; omega
theorem P12.skip {n k : Nat} {g f : Nat → Int} (h : P12 n k g f) (hk : k < n) (h7 : f k ≠ 7) : P12 n (k + 1) g f := fun j hj => by
  obtain ⟨h1, h2⟩ := h j hj
  refine ⟨h1, fun e => ?_⟩
  rcases h2 e with a | ⟨a, b⟩ | ⟨a, b⟩
  · exact Or.inl a
  · exact Or.inr (Or.inl ⟨by omega, b⟩)
  · by_cases e' : j = k
    · subst e'; exact absurd b h7
    · exact Or.inr (Or.inr ⟨by omega, b⟩)
theorem P12.step {n k : Nat} {g f : Nat → Int} (h : P12 n k g f) (hk : k < n) (h7 : f k = 7) : P12 n (k + 1) g (fun j => if j = k then 13 else f j) := fun j hj => by
  obtain ⟨h1, h2⟩ := h j hj
  show (_ → (if j = k then 13 else f j) = _) ∧ (_ → (if j = k then 13 else f j) = 3 ∨ (_ ∧ (if j = k then 13 else f j) = 13) ∨ (_ ∧ (if j = k then 13 else f j) = 7))
  by_cases e : j = k
  · subst e
    rw [if_pos rfl]
    refine ⟨fun h => ?_, fun _ => Or.inr (Or.inl ⟨by omega, rfl⟩)⟩
    have := h1 h
    omega
  · rw [if_neg e]
    refine ⟨h1, fun e2 => ?_⟩
    rcases h2 e2 with a | ⟨a, b⟩ | ⟨a, b⟩
    · exact Or.inl a
    · exact Or.inr (Or.inl ⟨by omega, b⟩)
    · exact Or.inr (Or.inr ⟨by omega, b⟩)

set_option maxHeartbeats 4000000 in
theorem terms_any (sb cb c gb d n : Nat) (vr vt : Value) (lev st en : Int) (g f0 : Nat → Int) (w : World) (H : SeqAt w sb cb c gb d n vr vt lev st en g f0) (hs : ∀ k, k < n → Sm (g k)) (hp : P1 n g f0) (hn : n ≤ 100000) :
    Calls Try.prog 71 #[.pointer (some ⟨sb, 0, none⟩)] w fun e w' => e = .returned (.tuple #[]) ∧ ∃ f, St cb c n w w' f ∧ P2 n g f := by
  have S0 : Hid (St cb c n w w f0 ∧ P12 n 0 g f0) := ⟨⟨But.refl _ _, H.cls⟩, fun j hj => ⟨(hp j hj).1, fun e => by
    rcases (hp j hj).2 e with a | a
    · exact Or.inr (Or.inr ⟨Nat.zero_le _, a⟩)
    · exact Or.inl a⟩⟩
  have HB := hide H.blk
  have NE := H.ne1
  have b3 := H.blk.cell 3 rfl
  have HS := hide hs
  clear H hs hp
  go_enter Try.func71, Try.ntmps71
  go_wp2
  clear b3
  go_loopg [2] (n + 1) (fun gh vk wr => ∃ (k : Nat) (f : Nat → Int), vk = .int .i64 (k : Int) ∧ k ≤ n ∧ n - k < gh ∧ Hid (St cb c n w wr f ∧ P12 n k g f))
  case atStart => exact ⟨0, f0, by go_num, by omega, by omega, S0⟩
  case round =>
    clear S0
    obtain ⟨wo, rfl⟩ : ∃ wo : World, wo = wr := ⟨_, rfl⟩
    obtain ⟨k, f, rfl, hk, hg, S⟩ := hrel
    have b3 := (S.out.1.but.blk HB.out NE).cell 3 rfl
    by_cases hlt : k < n
    · have hltz : (k : Int) < (n : Int) := by omega
      have ca := S.out.1.row.cell hlt
      have fz := S.out.1.row.frozen k
      have va := S.out.2.val HS.out hlt (Nat.le_refl _)
      by_cases e7 : f k = 7
      · have NX2 : Hid (St cb c n w (wo.setCell ⟨cb, k, none⟩ (.int .i64 13)) (fun j => if j = k then 13 else f j) ∧ P12 n (k + 1) g (fun j => if j = k then 13 else f j)) := ⟨S.out.1.set_ hlt 13, S.out.2.step hlt e7⟩
        rw [e7] at ca
        clear va e7 S
        go_wp2
        go_roundg (n - k)
        case measure => omega
        case rel => exact ⟨k + 1, _, by go_num, by omega, by omega, NX2⟩
      · have NX2 : Hid (St cb c n w wo f ∧ P12 n (k + 1) g f) := ⟨S.out.1, S.out.2.skip hlt e7⟩
        obtain ⟨x, ex⟩ : ∃ x, x = f k := ⟨_, rfl⟩
        rw [← ex] at ca
        have x1 : ¬ x = 5 := by omega
        have x2 : ¬ x = 4 := by omega
        have x3 : ¬ x = 7 := by omega
        clear va e7 S ex
        go_wp2
        go_roundg (n - k)
        case measure => omega
        case rel => exact ⟨k + 1, _, by go_num, by omega, by omega, NX2⟩
    · have hltz : ¬ (k : Int) < (n : Int) := by omega
      have E : Hid (∃ f, St cb c n w wo f ∧ P2 n g f) := ⟨f, S.out.1, fun j hj => ⟨(S.out.2 j hj).1, fun e => by
        rcases (S.out.2 j hj).2 e with a | ⟨a, b⟩ | ⟨a, b⟩
        · exact Or.inr a
        · exact Or.inl b
        · omega⟩⟩
      clear S
      go_wp2
      go_end0
      exact ⟨rfl, E.out⟩

/-- Behind W7; st: the class that stands before the sequence. -/
def P3 (n : Nat) (st : Int) (g f : Nat → Int) : Prop := ∀ j, j < n → (g j = 0 → f j = 0) ∧ (g j = 1 → f j = 1) ∧ (g j = 12 → f j = 12) ∧ (g j = 3 → f j = 3 ∨ f j = 0) ∧ (g j = 7 → f j = 13 ∨ f j = 3 ∨ f j = 0) ∧
  ((∀ i, i < n → g i ≠ 1) ∧ st = 0 → f j ≠ 3)
def P23 (n k : Nat) (st : Int) (g f : Nat → Int) : Prop := ∀ j, j < n → (g j = 0 → f j = 0) ∧ (g j = 1 → f j = 1) ∧ (g j = 12 → f j = 12) ∧ (g j = 3 → f j = 3 ∨ f j = 0) ∧ (g j = 7 → f j = 13 ∨ f j = 3 ∨ f j = 0) ∧
  ((∀ i, i < n → g i ≠ 1) ∧ st = 0 → j < k → f j ≠ 3)
theorem P23.val {n k i : Nat} {st : Int} {g f : Nat → Int} (hs : ∀ k, k < n → Sm (g k)) (h : P23 n k st g f) (hk : i < n) : Sn (f i) := by
  obtain ⟨h1, h2, h3, h4, h5, _⟩ := h i hk
  have := hs i hk
  unfold Sm at this
  unfold Sn
  omega
theorem P23.one {n k i : Nat} {st : Int} {g f : Nat → Int} (hs : ∀ k, k < n → Sm (g k)) (h : P23 n k st g f) (hk : i < n) (h1 : f i = 1) : g i = 1 := by
  obtain ⟨h1, h2, h3, h4, h5, _⟩ := h i hk
  have := hs i hk
  unfold Sm at this
  omega
theorem P23.skip {n k : Nat} {st : Int} {g f : Nat → Int} (h : P23 n k st g f) (hk : (∀ i, i < n → g i ≠ 1) ∧ st = 0 → f k ≠ 3) : P23 n (k + 1) st g f := fun j hj => by
  obtain ⟨h1, h2, h3, h4, h5, h6⟩ := h j hj
  refine ⟨h1, h2, h3, h4, h5, fun a b => ?_⟩
  by_cases e : j = k
  · subst e; exact hk a
  · exact h6 a (by omega)
theorem P23.step {n k : Nat} {st : Int} {g f : Nat → Int} (h : P23 n k st g f) (hk : f k = 3) : P23 n (k + 1) st g (fun j => if j = k then 0 else f j) := fun j hj => by
  obtain ⟨h1, h2, h3, h4, h5, h6⟩ := h j hj
  by_cases e : j = k
  · subst e
    refine ⟨fun _ => if_pos rfl, fun h => ?_, fun h => ?_, fun h => ?_, fun h => ?_, fun _ _ => ?_⟩
    · have := h2 h; omega
    · have := h3 h; omega
    · exact Or.inr (if_pos rfl)
    · exact Or.inr (Or.inr (if_pos rfl))
    · show (if j = j then (0 : Int) else f j) ≠ 3
      rw [if_pos rfl]; decide
  · simp only [if_neg e]
    exact ⟨h1, h2, h3, h4, h5, fun a b => h6 a (by omega)⟩

set_option maxHeartbeats 4000000 in
theorem w7_any (sb cb c gb d n : Nat) (vr vt : Value) (lev st en : Int) (g f0 : Nat → Int) (w : World) (H : SeqAt w sb cb c gb d n vr vt lev st en g f0) (hs : ∀ k, k < n → Sm (g k)) (hp : P2 n g f0) (hn : n ≤ 100000) (hst : st = 0 ∨ st = 1) :
    Calls Try.prog 72 #[.pointer (some ⟨sb, 0, none⟩)] w fun e w' => e = .returned (.tuple #[]) ∧ ∃ f, St cb c n w w' f ∧ P3 n st g f := by
  have S0 : Hid (St cb c n w w f0 ∧ P23 n 0 st g f0) := ⟨⟨But.refl _ _, H.cls⟩, fun j hj => by
    obtain ⟨a, b⟩ := hp j hj
    have := hs j hj
    unfold Sm at this
    refine ⟨?_, ?_, ?_, ?_, ?_, fun _ h => by omega⟩
    · intro e; rw [a (by omega), e]
    · intro e; rw [a (by omega), e]
    · intro e; rw [a (by omega), e]
    · intro e; left; rw [a (by omega), e]
    · intro e
      rcases b e with b | b
      · exact Or.inl b
      · exact Or.inr (Or.inl b)⟩
  have HB := hide H.blk
  have NE := H.ne1
  have b3 := H.blk.cell 3 rfl
  have b5 := H.blk.cell 5 rfl
  have HS := hide hs
  have HST := hide hst
  clear H hs hp hst
  go_enter Try.func72, Try.ntmps72
  go_wp2
  clear b3 b5
  go_loopg [2, 14] (n + 1) (fun gh v vk wr => ∃ (k : Nat) (x : Int) (f : Nat → Int), vk = .int .i64 (k : Int) ∧ v = .int .i64 x ∧ k ≤ n ∧ n - k < gh ∧ Hid ((x = 0 ∨ x = 1) ∧ ((∀ i, i < n → g i ≠ 1) ∧ st = 0 → x = 0)) ∧ Hid (St cb c n w wr f ∧ P23 n k st g f))
  case atStart => exact ⟨0, st, f0, by go_num, rfl, by omega, by omega, ⟨HST.out, fun h => h.2⟩, S0⟩
  case round =>
    clear S0
    obtain ⟨wo, rfl⟩ : ∃ wo : World, wo = wr := ⟨_, rfl⟩
    obtain ⟨k, x, f, rfl, rfl, hk, hg, hx, S⟩ := hrel
    have b3 := (S.out.1.but.blk HB.out NE).cell 3 rfl
    by_cases hlt : k < n
    · have hltz : (k : Int) < (n : Int) := by omega
      have ca := S.out.1.row.cell hlt
      have fz := S.out.1.row.frozen k
      have va := S.out.2.val HS.out hlt
      by_cases e3 : f k = 3
      · rw [e3] at ca
        by_cases x0 : x = 0
        · have NX2 : Hid (St cb c n w (wo.setCell ⟨cb, k, none⟩ (.int .i64 0)) (fun j => if j = k then 0 else f j) ∧ P23 n (k + 1) st g (fun j => if j = k then 0 else f j)) := ⟨S.out.1.set_ hlt 0, S.out.2.step e3⟩
          subst x0
          clear va e3 S
          go_wp2
          go_roundg (n - k)
          case measure => omega
          case rel => exact ⟨k + 1, _, _, by go_num, rfl, by omega, by omega, ⟨Or.inl rfl, fun _ => rfl⟩, NX2⟩
        · have NX2 : Hid (St cb c n w wo f ∧ P23 n (k + 1) st g f) := ⟨S.out.1, S.out.2.skip fun a => absurd (hx.out.2 a) x0⟩
          clear va e3 S
          go_wp2
          go_roundg (n - k)
          case measure => omega
          case rel => exact ⟨k + 1, _, _, by go_num, rfl, by omega, by omega, hx, NX2⟩
      · have NX2 : Hid (St cb c n w wo f ∧ P23 n (k + 1) st g f) := ⟨S.out.1, S.out.2.skip fun _ => e3⟩
        by_cases e0 : f k = 0
        · rw [e0] at ca
          clear va e3 S
          go_wp2
          go_roundg (n - k)
          case measure => omega
          case rel => exact ⟨k + 1, _, _, by go_num, rfl, by omega, by omega, ⟨Or.inl rfl, fun _ => rfl⟩, NX2⟩
        · by_cases e1 : f k = 1
          · have gk := hide (S.out.2.one HS.out hlt e1)
            rw [e1] at ca
            clear va e3 S
            go_wp2
            go_roundg (n - k)
            case measure => omega
            case rel => exact ⟨k + 1, _, _, by go_num, rfl, by omega, by omega, ⟨Or.inr rfl, fun h => absurd gk.out (h.1 k hlt)⟩, NX2⟩
          · obtain ⟨y, ey⟩ : ∃ y, y = f k := ⟨_, rfl⟩
            rw [← ey] at ca
            have y1 : ¬ y = 0 := by omega
            have y2 : ¬ y = 1 := by omega
            have y3 : ¬ y = 3 := by omega
            have z1 : (y == 0) = false := by simp [y1]
            have z2 : (y == 1) = false := by simp [y2]
            have z3 : (y == 3) = false := by simp [y3]
            clear va e3 S ey e0 e1
            go_wp2
            go_roundg (n - k)
            case measure => omega
            case rel => exact ⟨k + 1, _, _, by go_num, rfl, by omega, by omega, hx, NX2⟩
    · have hltz : ¬ (k : Int) < (n : Int) := by omega
      have E : Hid (∃ f, St cb c n w wo f ∧ P3 n st g f) := ⟨f, S.out.1, fun j hj => by
        obtain ⟨h1, h2, h3, h4, h5, h6⟩ := S.out.2 j hj
        exact ⟨h1, h2, h3, h4, h5, fun a => h6 a (by omega)⟩⟩
      clear S
      go_wp2
      go_end0
      exact ⟨rfl, E.out⟩
end Go.Proofs.Ytdkmjhbkjhikfaa
