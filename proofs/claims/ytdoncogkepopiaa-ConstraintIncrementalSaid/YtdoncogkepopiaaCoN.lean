/- More on which constraints are accepted: later passes keep what earlier ones accepted; all that can stand together are accepted; what is not accepted is not satisfied; no premise on the program. -/
import Derived.Test.YtdoncogkepopiaaCoM
namespace Go.Proofs.Ytdoncogkepopiaa
open Go.RowKit Go.Sort
set_option linter.unusedVariables false
set_option linter.unusedSimpArgs false

section
variable {n m : Nat} {l : Nat → Cn} {acc base : Nat → Bool} {s : Int}
theorem acS_next {k j : Nat} (h : acS n m l s base k j = true) : acS n m l s base (k + 1) j = true := by
  by_cases h1 : (l k).st = s
  · by_cases hf : Feas n m l (updB (acS n m l s base k) k true)
    · rw [acS_yes h1 hf]
      unfold updB
      split
      · rfl
      · exact h
    · rw [acS_no h1 hf]; exact h
  · rw [acS_off h1]; exact h
theorem acS_mono {k j : Nat} (h : acS n m l s base k j = true) : ∀ d, acS n m l s base (k + d) j = true
  | 0 => h
  | d + 1 => acS_next (acS_mono h d)
theorem acS_to {k r j : Nat} (h : acS n m l s base k j = true) (hr : k ≤ r) : acS n m l s base r j = true := by
  have := acS_mono h (r - k)
  rwa [show k + (r - k) = r by omega] at this
theorem acB_next {s j : Nat} (h : acB n m l s j = true) : acB n m l (s + 1) j = true := acS_keep h m
theorem acB_mono {s j : Nat} (h : acB n m l s j = true) : ∀ d, acB n m l (s + d) j = true
  | 0 => h
  | d + 1 => acB_next (acB_mono h d)
theorem acB_to {s r j : Nat} (h : acB n m l s j = true) (hr : s ≤ r) : acB n m l r j = true := by
  have := acB_mono h (r - s)
  rwa [show s + (r - s) = r by omega] at this
/-- A constraint that can stand beside all that are accepted in the end is accepted. -/
theorem acB_take {s k : Nat} (hk : k < m) (h0 : 0 ≤ (l k).st) (hs : (l k).st ≤ s) (hf : Feas n m l (updB (acB n m l s) k true)) : acB n m l s k = true := by
  obtain ⟨t, ht⟩ : ∃ t : Nat, (l k).st = (t : Int) := ⟨(l k).st.toNat, by omega⟩
  match t, ht with
  | 0, ht =>
    refine acB_to (s := 0) ?_ (Nat.zero_le _)
    exact decide_eq_true ht
  | t + 1, ht =>
    refine acB_to (s := t + 1) ?_ (by omega)
    have hst : (l k).st = (t : Int) + 1 := by rw [ht]; rfl
    have hf2 : Feas n m l (updB (acS n m l ((t : Int) + 1) (acB n m l t) k) k true) := by
      obtain ⟨x, hx⟩ := hf
      refine ⟨x, sol_acc hx fun j hj ha => ?_⟩
      unfold updB at ha ⊢
      by_cases e : j = k
      · rw [if_pos e]
      · rw [if_neg e] at ha ⊢
        exact acB_to (s := t + 1) (acS_to ha (Nat.le_of_lt hk)) (by omega)
    have h1 : acS n m l ((t : Int) + 1) (acB n m l t) (k + 1) k = true := by
      rw [acS_yes hst hf2]
      unfold updB
      rw [if_pos rfl]
    exact acS_to h1 hk
theorem acB_all {s k : Nat} (hf : Feas n m l (fun _ => true)) (hk : k < m) (h0 : 0 ≤ (l k).st) (hs : (l k).st ≤ s) : acB n m l s k = true := by
  obtain ⟨x, hx⟩ := hf
  exact acB_take hk h0 hs ⟨x, sol_acc hx fun _ _ _ => rfl⟩
/-- The values satisfy exactly the accepted constraints. -/
theorem acB_iff {s k : Nat} (hf : Feas n m l (ac0 l)) (hk : k < m) (h0 : 0 ≤ (l k).st) (hs : (l k).st ≤ s) : satG (lvF n m l (acB n m l s)) (l k) ↔ acB n m l s k = true := by
  have hl := lvF_spec (acB_feas hf s)
  refine ⟨fun h => acB_take hk h0 hs ⟨_, hl.1.1, fun j hj ha => ?_⟩, fun h => hl.1.2 k hk h⟩
  unfold updB at ha
  by_cases e : j = k
  · subst e; exact h
  · rw [if_neg e] at ha; exact hl.1.2 j hj ha
end
/-! ### The laws' own systems -/
/-- Two variables in a row. -/
def awL (k : Nat) : Cn := match k with
  | 0 => ⟨0, -1, 0, 5, 0⟩
  | _ => ⟨1, 0, 2, 10, 3⟩
def awX (i : Nat) : Int := if i = 0 then 5 else 15
theorem awL_ok {k : Nat} (hk : k < 2) : okC (2 : Nat) (awL k) := by
  rcases (show k = 0 ∨ k = 1 by omega) with rfl | rfl <;> simp [okC, awL]
theorem aw_sol (acc : Nat → Bool) : Sol 2 2 awL acc awX := by
  refine ⟨fun i hi => ?_, fun k hk _ => ?_⟩
  · rcases (show i = 0 ∨ i = 1 by omega) with rfl | rfl <;> simp [awX]
  · rcases (show k = 0 ∨ k = 1 by omega) with rfl | rfl <;> simp [satG, awL, awX, vF]
theorem aw_err : erS (2 : Int) 2 awL = 0 := by
  unfold erS
  rw [if_neg (by omega), if_neg (by omega), if_neg (fun q => q fun k hk => awL_ok hk), if_pos]
  exact ⟨awX, aw_sol _⟩
theorem aw_acc {k : Nat} (hk : k < 2) : acB 2 2 awL 3 k = true :=
  acB_all ⟨awX, aw_sol _⟩ hk (by rcases (show k = 0 ∨ k = 1 by omega) with rfl | rfl <;> simp [awL]) (by rcases (show k = 0 ∨ k = 1 by omega) with rfl | rfl <;> simp [awL])
theorem aw_lst : Lst 2 2 awL (acB 2 2 awL 3) awX := ⟨aw_sol _, fun z hz => by
  have h0 := hz.2 0 (by decide) (aw_acc (by decide))
  have h1 := hz.2 1 (by decide) (aw_acc (by decide))
  simp [satG, awL, vF] at h0 h1
  intro i hi
  rcases (show i = 0 ∨ i = 1 by omega) with rfl | rfl
  · simp [awX]; omega
  · simp [awX]; omega⟩
theorem aw_val {i : Nat} (hi : i < 2) : lvF 2 2 awL (acB 2 2 awL 3) i = awX i := (lvF_of aw_lst hi).symm
end Go.Proofs.Ytdoncogkepopiaa
