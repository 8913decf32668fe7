/- The mathematics of the common type: flat types, chains of lists, the join of two; no condition. -/
import Derived.Test.YtnhhmndnmkkhlaaDoorExTa
import Derived.Test.YtnhhmndnmkkhlaaDoorExLa
namespace Go.Proofs.YtnhhmndnmkkhlaaDoor
set_option linter.unusedVariables false
set_option linter.unusedSimpArgs false

/-- What flatten makes of a type within l lists. -/
def flT : Ty → Nat → Int × Int × Bool
  | .nil, _ => (0, 0, false)
  | .mk k m f, l => if k = 4 then (if 16 < l + 1 ∨ 1 < m then (0, 0, false) else if m = 0 then (((l + 1 : Nat) : Int), 0, true) else flT (f 0) (l + 1))
      else if 0 < m ∨ ¬ (k = 1 ∨ k = 2 ∨ k = 3) then (0, 0, false) else ((l : Int), k, true)
/-- The reference's validType at a depth. -/
def vaT : Ty → Nat → Bool
  | .nil, _ => false
  | .mk k m f, d => if k = 1 ∨ k = 2 ∨ k = 3 then decide (m = 0) else if k ≠ 4 ∨ 16 < d ∨ 1 < m then false else if m = 0 then true else vaT (f 0) (d + 1)
/-- The type that a flat type stands for. -/
def NT (b : Int) : Nat → Ty
  | 0 => .mk b 0 fun _ => .nil
  | l + 1 => .mk 4 (if 0 < l ∨ b ≠ 0 then 1 else 0) fun _ => NT b l
/-- The reference's SameType. -/
def smT : Ty → Ty → Bool
  | .nil, .nil => true
  | .nil, .mk .. => false
  | .mk .., .nil => false
  | .mk k m f, .mk k' m' f' => if k = k' ∧ m = m' then (List.range m).all fun i => smT (f i) (f' i) else false
abbrev zT : Ty := .mk 0 0 fun _ => .nil
/-- The reference's join. -/
def reT : Ty → Ty → Ty × Bool
  | .nil, _ => (zT, false)
  | _, .nil => (zT, false)
  | .mk k m f, .mk k' m' f' => if k ≠ k' then (zT, false) else if m = 0 then (.mk k' m' f', true) else if m' = 0 then (.mk k m f, true) else
      if (reT (f 0) (f' 0)).2 = false then (zT, false) else (.mk k 1 fun _ => (reT (f 0) (f' 0)).1, true)
/-- What Join makes of two types. -/
def jT (a b : Ty) : Ty × Bool :=
  if (flT a 0).2.2 = true ∧ (flT b 0).2.2 = true then (NT (jnR (flT a 0).1 (flT a 0).2.1 (flT b 0).1 (flT b 0).2.1).2.1 (jnR (flT a 0).1 (flT a 0).2.1 (flT b 0).1 (flT b 0).2.1).1.toNat, (jnR (flT a 0).1 (flT a 0).2.1 (flT b 0).1 (flT b 0).2.1).2.2) else (zT, false)
/-- The reference's Join. -/
def rjT (a b : Ty) : Ty × Bool := if vaT a 1 = true ∧ vaT b 1 = true then reT a b else (zT, false)

/-- A chain of l lists around b (0: nothing). -/
def Ch (b : Int) : Nat → Ty → Prop
  | 0, t => ∃ f, t = .mk b 0 f ∧ (b = 1 ∨ b = 2 ∨ b = 3)
  | l + 1, t => ∃ m f, t = .mk 4 m f ∧ ((m = 0 ∧ l = 0 ∧ b = 0) ∨ (m = 1 ∧ Ch b l (f 0)))
theorem Ch.bs {b : Int} : ∀ {l : Nat} {t : Ty}, Ch b l t → (b = 0 ∧ 0 < l) ∨ b = 1 ∨ b = 2 ∨ b = 3
  | 0, _, ⟨f, _, h⟩ => .inr h
  | l + 1, _, ⟨m, f, _, h⟩ => by
    rcases h with ⟨-, -, h⟩ | ⟨-, h⟩
    · exact .inl ⟨h, by omega⟩
    · rcases h.bs with ⟨h, _⟩ | h
      · exact .inl ⟨h, by omega⟩
      · exact .inr h
theorem Ch.va {b : Int} : ∀ {l d : Nat} {t : Ty}, Ch b l t → l + d ≤ 17 → vaT t d = true
  | 0, d, _, ⟨f, rfl, h⟩, _ => by simp [vaT, h]
  | l + 1, d, _, ⟨m, f, rfl, h⟩, hd => by
    rcases h with ⟨rfl, -, -⟩ | ⟨rfl, h⟩
    · have : ¬ 16 < d := by omega
      simp [vaT, this]
    · have h1 : ¬ 16 < d := by omega
      simp [vaT, h1, h.va (d := d + 1) (by omega)]
theorem Ch.fl {b : Int} : ∀ {l n : Nat} {t : Ty}, Ch b l t → n + l ≤ 16 → flT t n = (((n + l : Nat) : Int), b, true)
  | 0, n, _, ⟨f, rfl, h⟩, _ => by
    have h4 : ¬ b = 4 := by omega
    simp [flT, h, h4]
  | l + 1, n, _, ⟨m, f, rfl, h⟩, hn => by
    have h1 : ¬ 16 < n + 1 := by omega
    rcases h with ⟨rfl, rfl, rfl⟩ | ⟨rfl, h⟩
    · simp [flT, h1]
    · simp only [flT, if_true, h1, false_or, Nat.lt_irrefl, if_false]
      rw [if_neg (by omega), h.fl (n := n + 1) (by omega)]
      rw [show n + 1 + l = n + (l + 1) by omega]
theorem va_fl : ∀ (t : Ty) (n : Nat), (flT t n).2.2 = vaT t (n + 1)
  | .nil, n => rfl
  | .mk k m f, n => by
    have ih := va_fl (f 0) (n + 1)
    unfold flT vaT
    by_cases h4 : k = 4
    · subst h4
      by_cases h1 : 16 < n + 1
      · simp [h1]
      · by_cases h2 : 1 < m
        · simp [h1, h2]
        · by_cases h0 : m = 0
          · simp [h1, h0]
          · simp [h1, h2, h0, ih]
    · by_cases h123 : k = 1 ∨ k = 2 ∨ k = 3
      · by_cases h0 : m = 0
        · simp [h4, h123, h0]
        · have : 0 < m := by omega
          simp [h4, h123, h0, this]
      · simp [h4, h123]
theorem va_ch : ∀ (t : Ty) (d : Nat), vaT t d = true → ∃ l b, Ch b l t ∧ (0 < l → l + d ≤ 17)
  | .nil, d, h => by simp [vaT] at h
  | .mk k m f, d, h => by
    have ih := va_ch (f 0) (d + 1)
    unfold vaT at h
    by_cases h123 : k = 1 ∨ k = 2 ∨ k = 3
    · rw [if_pos h123] at h
      obtain rfl : m = 0 := by simpa using h
      exact ⟨0, k, ⟨f, rfl, h123⟩, fun h => absurd h (by omega)⟩
    · rw [if_neg h123] at h
      by_cases hb : k ≠ 4 ∨ 16 < d ∨ 1 < m
      · rw [if_pos hb] at h; cases h
      · rw [if_neg hb] at h
        have hk : k = 4 := by omega
        subst hk
        by_cases h0 : m = 0
        · subst h0
          exact ⟨1, 0, ⟨0, f, rfl, .inl ⟨rfl, rfl, rfl⟩⟩, fun _ => by omega⟩
        · rw [if_neg h0] at h
          obtain rfl : m = 1 := by omega
          obtain ⟨l, b, hc, hl⟩ := ih h
          refine ⟨l + 1, b, ⟨1, f, rfl, .inr ⟨rfl, hc⟩⟩, fun _ => ?_⟩
          rcases Nat.eq_zero_or_pos l with h0 | h0
          · omega
          · have := hl h0; omega
theorem Ch.nt {b : Int} : ∀ {l : Nat}, ((b = 0 ∧ 0 < l) ∨ b = 1 ∨ b = 2 ∨ b = 3) → Ch b l (NT b l)
  | 0, h => ⟨_, rfl, by omega⟩
  | l + 1, h => by
    unfold NT
    by_cases h0 : 0 < l ∨ b ≠ 0
    · rw [if_pos h0]
      exact ⟨1, _, rfl, .inr ⟨rfl, Ch.nt (by omega)⟩⟩
    · rw [if_neg h0]
      exact ⟨0, _, rfl, .inl ⟨rfl, by omega, by omega⟩⟩
theorem Ch.sm {b : Int} : ∀ {l : Nat} {s t : Ty}, Ch b l s → Ch b l t → smT s t = true
  | 0, _, _, ⟨f, rfl, _⟩, ⟨g, rfl, _⟩ => by simp [smT]
  | l + 1, _, _, ⟨m, f, rfl, h⟩, ⟨m', f', rfl, h'⟩ => by
    rcases h with ⟨rfl, rfl, rfl⟩ | ⟨rfl, h⟩
    · rcases h' with ⟨rfl, -, -⟩ | ⟨rfl, h'⟩
      · simp [smT]
      · obtain ⟨_, _, h'⟩ := h'; omega
    · rcases h' with ⟨rfl, rfl, rfl⟩ | ⟨rfl, h'⟩
      · obtain ⟨_, _, h⟩ := h; omega
      · simp [smT, h.sm h']
theorem jn_comm (l0 k0 l1 k1 : Int) : jnR l0 k0 l1 k1 = jnR l1 k1 l0 k0 := by
  unfold jnR
  by_cases h1 : l0 = l1 ∧ k0 = k1
  · obtain ⟨rfl, rfl⟩ := h1; rfl
  · by_cases h2 : k0 = 0 ∧ l0 ≤ l1
    · by_cases h3 : k1 = 0 ∧ l1 ≤ l0
      · exact absurd (show l0 = l1 ∧ k0 = k1 by omega) h1
      · rw [if_pos (.inr h2), if_neg (by omega), if_pos h2]
    · by_cases h3 : k1 = 0 ∧ l1 ≤ l0
      · rw [if_neg (by omega), if_pos h3, if_pos (.inr h3)]
      · rw [if_neg (by omega), if_neg h3, if_neg (by omega), if_neg h2]
theorem jn_self (l k : Int) : jnR l k l k = (l, k, true) := by simp [jnR]
/-- The join, joined with either, is the join. -/
theorem jn_left {l0 k0 l1 k1 : Int} (h : (jnR l0 k0 l1 k1).2.2 = true) : jnR (jnR l0 k0 l1 k1).1 (jnR l0 k0 l1 k1).2.1 l0 k0 = ((jnR l0 k0 l1 k1).1, (jnR l0 k0 l1 k1).2.1, true) := by
  unfold jnR at h ⊢
  by_cases h1 : (l0 = l1 ∧ k0 = k1) ∨ (k0 = 0 ∧ l0 ≤ l1)
  · rw [if_pos h1]
    dsimp only
    by_cases h2 : (l1 = l0 ∧ k1 = k0) ∨ (k1 = 0 ∧ l1 ≤ l0)
    · have : l1 = l0 ∧ k1 = k0 := by omega
      rw [if_pos h2, this.1, this.2]
    · rw [if_neg h2, if_pos (by omega)]
  · rw [if_neg h1] at h ⊢
    by_cases h2 : k1 = 0 ∧ l1 ≤ l0
    · rw [if_pos h2]
      dsimp only
      rw [if_pos (.inl ⟨rfl, rfl⟩)]
    · rw [if_neg h2] at h; cases h
/-- The join of two that are flat types is one. -/
theorem jn_ok {l0 k0 l1 k1 : Int} (h : (jnR l0 k0 l1 k1).2.2 = true) : ((jnR l0 k0 l1 k1).1 = l1 ∧ (jnR l0 k0 l1 k1).2.1 = k1) ∨ ((jnR l0 k0 l1 k1).1 = l0 ∧ (jnR l0 k0 l1 k1).2.1 = k0) := by
  unfold jnR at h ⊢
  by_cases h1 : (l0 = l1 ∧ k0 = k1) ∨ (k0 = 0 ∧ l0 ≤ l1)
  · rw [if_pos h1]; exact .inl ⟨rfl, rfl⟩
  · rw [if_neg h1] at h ⊢
    by_cases h2 : k1 = 0 ∧ l1 ≤ l0
    · rw [if_pos h2]; exact .inr ⟨rfl, rfl⟩
    · rw [if_neg h2] at h; cases h
theorem jn_no {l0 k0 l1 k1 : Int} (h : (jnR l0 k0 l1 k1).2.2 = false) : jnR l0 k0 l1 k1 = (0, 0, false) := by
  unfold jnR at h ⊢
  by_cases h1 : (l0 = l1 ∧ k0 = k1) ∨ (k0 = 0 ∧ l0 ≤ l1)
  · rw [if_pos h1] at h; cases h
  · rw [if_neg h1] at h ⊢
    by_cases h2 : k1 = 0 ∧ l1 ≤ l0
    · rw [if_pos h2] at h; cases h
    · rw [if_neg h2]
theorem jn_succ (l0 l1 k0 k1 : Int) : (jnR (l0 + 1) k0 (l1 + 1) k1).2.2 = (jnR l0 k0 l1 k1).2.2 ∧ ((jnR l0 k0 l1 k1).2.2 = true → (jnR (l0 + 1) k0 (l1 + 1) k1).1 = (jnR l0 k0 l1 k1).1 + 1 ∧ (jnR (l0 + 1) k0 (l1 + 1) k1).2.1 = (jnR l0 k0 l1 k1).2.1) := by
  unfold jnR
  have e1 : ((l0 + 1 = l1 + 1 ∧ k0 = k1) ∨ (k0 = 0 ∧ l0 + 1 ≤ l1 + 1)) ↔ ((l0 = l1 ∧ k0 = k1) ∨ (k0 = 0 ∧ l0 ≤ l1)) := by omega
  have e2 : (k1 = 0 ∧ l1 + 1 ≤ l0 + 1) ↔ (k1 = 0 ∧ l1 ≤ l0) := by omega
  by_cases h1 : (l0 = l1 ∧ k0 = k1) ∨ (k0 = 0 ∧ l0 ≤ l1)
  · rw [if_pos (e1.2 h1), if_pos h1]; simp
  · rw [if_neg (fun h => h1 (e1.1 h)), if_neg h1]
    by_cases h2 : k1 = 0 ∧ l1 ≤ l0
    · rw [if_pos (e2.2 h2), if_pos h2]; simp
    · rw [if_neg (fun h => h2 (e2.1 h)), if_neg h2]; simp
/-- The reference's join of two chains. -/
theorem re_ch {b b' : Int} : ∀ {l l' : Nat} {s t : Ty}, Ch b l s → Ch b' l' t →
    (reT s t).2 = (jnR l b l' b').2.2 ∧ ((reT s t).2 = true → Ch (jnR l b l' b').2.1 (jnR l b l' b').1.toNat (reT s t).1) ∧ ((reT s t).2 = false → (reT s t).1 = zT) := by
  intro l
  induction l with
  | zero =>
    intro l' s t hs ht
    obtain ⟨f, rfl, hb⟩ := hs
    cases l' with
    | zero =>
      obtain ⟨f', rfl, hb'⟩ := ht
      by_cases h : b = b'
      · subst h
        refine ⟨by simp [reT, jnR], fun _ => ?_, fun h => by simp [reT] at h⟩
        simp only [reT, jnR]
        simp
        exact ⟨_, rfl, hb⟩
      · have e : jnR ((0 : Nat) : Int) b ((0 : Nat) : Int) b' = (0, 0, false) := by
          unfold jnR; rw [if_neg (by omega), if_neg (by omega)]
        rw [e]
        simp [reT, h]
    | succ l' =>
      obtain ⟨m', f', rfl, hb'⟩ := ht
      have hb4 : b ≠ 4 := by omega
      have e : jnR ((0 : Nat) : Int) b ((l' + 1 : Nat) : Int) b' = (0, 0, false) := by
        unfold jnR; rw [if_neg (by omega), if_neg (by omega)]
      rw [e]
      simp [reT, hb4]
  | succ l ih =>
    intro l' s t hs ht
    obtain ⟨m, f, rfl, hs⟩ := hs
    cases l' with
    | zero =>
      obtain ⟨f', rfl, hb'⟩ := ht
      have hb4 : (4 : Int) ≠ b' := by omega
      have e : jnR ((l + 1 : Nat) : Int) b ((0 : Nat) : Int) b' = (0, 0, false) := by
        unfold jnR; rw [if_neg (by omega), if_neg (by omega)]
      rw [e]
      simp [reT, hb4]
    | succ l' =>
      have htc := ht
      obtain ⟨m', f', rfl, ht⟩ := ht
      rcases hs with ⟨rfl, rfl, rfl⟩ | ⟨rfl, hs⟩
      · have e : jnR ((0 + 1 : Nat) : Int) 0 ((l' + 1 : Nat) : Int) b' = (((l' + 1 : Nat) : Int), b', true) := by
          unfold jnR; rw [if_pos (by omega)]
        rw [e]
        refine ⟨by simp [reT], fun _ => ?_, fun h => by simp [reT] at h⟩
        simp only [reT]
        simpa using htc
      · rcases ht with ⟨rfl, rfl, rfl⟩ | ⟨rfl, ht⟩
        · by_cases hq : ((l + 1 : Nat) : Int) = ((0 + 1 : Nat) : Int) ∧ b = 0
          · obtain ⟨h1, rfl⟩ := hq
            have : l = 0 := by omega
            subst this
            obtain ⟨_, _, hs⟩ := hs; omega
          · have hlb := hs.bs
            have e : jnR ((l + 1 : Nat) : Int) b ((0 + 1 : Nat) : Int) 0 = (((l + 1 : Nat) : Int), b, true) := by
              unfold jnR
              rw [if_neg (by omega), if_pos (by omega)]
            rw [e]
            refine ⟨by simp [reT], fun _ => ?_, fun h => by simp [reT] at h⟩
            simp only [reT]
            simp
            exact ⟨1, f, rfl, .inr ⟨rfl, hs⟩⟩
        · obtain ⟨i1, i2, i3⟩ := ih hs ht
          have hj := jn_succ (l : Int) (l' : Int) b b'
          rw [show ((l + 1 : Nat) : Int) = (l : Int) + 1 by omega, show ((l' + 1 : Nat) : Int) = (l' : Int) + 1 by omega]
          by_cases hr : (reT (f 0) (f' 0)).2 = false
          · have h2 : (jnR (l : Int) b (l' : Int) b').2.2 = false := by rw [← i1]; exact hr
            refine ⟨?_, fun h => ?_, fun _ => ?_⟩
            · rw [hj.1, h2]; simp [reT, hr]
            · simp [reT, hr] at h
            · simp [reT, hr]
          · have hr' : (reT (f 0) (f' 0)).2 = true := by simpa using hr
            have h2 : (jnR (l : Int) b (l' : Int) b').2.2 = true := by rw [← i1]; exact hr'
            have hc := i2 hr'
            have h0 : 0 ≤ (jnR (l : Int) b (l' : Int) b').1 := by rcases jn_ok h2 with h | h <;> omega
            refine ⟨?_, fun h => ?_, fun h => ?_⟩
            · rw [hj.1, h2]; simp [reT, hr']
            · rw [(hj.2 h2).1, (hj.2 h2).2]
              rw [show ((jnR (l : Int) b (l' : Int) b').1 + 1).toNat = (jnR (l : Int) b (l' : Int) b').1.toNat + 1 by omega]
              simp only [reT, hr']
              simp
              exact ⟨1, _, rfl, .inr ⟨rfl, hc⟩⟩
            · simp [reT, hr'] at h
/-- Join and the reference's Join agree. -/
theorem j_rj (a b : Ty) : (jT a b).2 = (rjT a b).2 ∧ smT (rjT a b).1 (jT a b).1 = true := by
  unfold jT rjT
  have ha := va_fl a 0
  have hb := va_fl b 0
  by_cases h : vaT a 1 = true ∧ vaT b 1 = true
  · rw [if_pos h, if_pos ⟨by rw [ha]; exact h.1, by rw [hb]; exact h.2⟩]
    obtain ⟨l, k, hc, hl⟩ := va_ch a 1 h.1
    obtain ⟨l', k', hc', hl'⟩ := va_ch b 1 h.2
    have e := hc.fl (n := 0) (by rcases Nat.eq_zero_or_pos l with h0 | h0; omega; have := hl h0; omega)
    have e' := hc'.fl (n := 0) (by rcases Nat.eq_zero_or_pos l' with h0 | h0; omega; have := hl' h0; omega)
    rw [e, e']
    simp only [Nat.zero_add]
    obtain ⟨i1, i2, i3⟩ := re_ch hc hc'
    refine ⟨i1.symm, ?_⟩
    by_cases hr : (reT a b).2 = true
    · have h2 := i1.symm.trans hr
      have hb2 := (i2 hr).bs
      exact (i2 hr).sm (Ch.nt hb2)
    · have hr' : (reT a b).2 = false := by simpa using hr
      rw [i3 hr', jn_no (i1.symm.trans hr')]
      simp [smT, NT]
  · rw [if_neg h, if_neg (fun h' => h ⟨by rw [← ha]; exact h'.1, by rw [← hb]; exact h'.2⟩)]
    simp [smT]
/-- What the law asks of two chains. -/
theorem j_law {b b' : Int} {l l' : Nat} {x y : Ty} (hx : Ch b l x) (hy : Ch b' l' y) (hl : l ≤ 16) (hl' : l' ≤ 16) :
    (jT x y).2 = (jT y x).2 ∧ (jT x x).2 = true ∧ smT (jT x x).1 x = true ∧ ((jT x y).2 = true → smT (jT x y).1 (jT y x).1 = true ∧
      (jT (jT x y).1 x).2 = true ∧ (jT (jT x y).1 y).2 = true ∧ smT (jT (jT x y).1 x).1 (jT x y).1 = true ∧ smT (jT (jT x y).1 y).1 (jT x y).1 = true) := by
  have ex := hx.fl (n := 0) (by omega)
  have ey := hy.fl (n := 0) (by omega)
  rw [Nat.zero_add] at ex ey
  have e1 : jT x y = (NT (jnR l b l' b').2.1 (jnR l b l' b').1.toNat, (jnR l b l' b').2.2) := by unfold jT; rw [ex, ey]; simp
  have e2 : jT y x = (NT (jnR l b l' b').2.1 (jnR l b l' b').1.toNat, (jnR l b l' b').2.2) := by unfold jT; rw [ex, ey, jn_comm (l' : Int)]; simp
  have e3 : jT x x = (NT b l, true) := by unfold jT; rw [ex, jn_self]; simp
  refine ⟨by rw [e1, e2], by rw [e3], by rw [e3]; exact (Ch.nt hx.bs).sm hx, fun h => ?_⟩
  rw [e1] at h
  rw [e1, e2]
  have hj := jn_ok h
  have hn : ∃ n : Nat, (jnR l b l' b').1 = (n : Int) ∧ n ≤ 16 := by
    rcases hj with ⟨h1, -⟩ | ⟨h1, -⟩
    · exact ⟨l', h1, hl'⟩
    · exact ⟨l, h1, hl⟩
  obtain ⟨n, hn, hn16⟩ := hn
  have L1 := jn_left h
  have L2 : jnR (jnR l b l' b').1 (jnR l b l' b').2.1 l' b' = ((jnR l b l' b').1, (jnR l b l' b').2.1, true) := by
    rw [jn_comm (l : Int)] at h ⊢
    exact jn_left h
  have hbs : ((jnR l b l' b').2.1 = 0 ∧ 0 < n) ∨ (jnR l b l' b').2.1 = 1 ∨ (jnR l b l' b').2.1 = 2 ∨ (jnR l b l' b').2.1 = 3 := by
    have h1 := hx.bs
    have h2 := hy.bs
    rcases hj with ⟨h3, h4⟩ | ⟨h3, h4⟩ <;> omega
  generalize jnR l b l' b' = r at *
  obtain ⟨r1, r2, r3⟩ := r
  dsimp only at *
  subst hn
  have hc : Ch r2 n (NT r2 n) := Ch.nt hbs
  have et := hc.fl (n := 0) (by omega)
  rw [Nat.zero_add] at et
  have f1 : jT (NT r2 n) x = (NT r2 n, true) := by unfold jT; rw [et, ex, L1]; simp
  have f2 : jT (NT r2 n) y = (NT r2 n, true) := by unfold jT; rw [et, ey, L2]; simp
  simp only [Int.toNat_natCast]
  rw [f1, f2]
  exact ⟨hc.sm hc, rfl, rfl, hc.sm hc, hc.sm hc⟩
end Go.Proofs.YtnhhmndnmkkhlaaDoor
