/- Constraints as bounds between pairs of variables, in plain terms: which bounds a constraint demands, lists of them, what has been accepted step by step; no premise on the program. -/
import Derived.Test.YtdoncogkepopiaaCoN
namespace Go.Proofs.Ytdoncogkepopiaa
open Go.RowKit Go.Sort
set_option linter.unusedVariables false
set_option linter.unusedSimpArgs false

/-- The bounds that a constraint demands, as constraints of the relation 'at least'. -/
def bo1 (c : Cn) : Cn := ⟨c.a, c.b, 0, c.cc, 0⟩
def bo2 (c : Cn) : Cn := ⟨c.b, c.a, 0, -c.cc, 0⟩
def boN (c : Cn) : Nat := if c.rel = 0 then 1 else if c.rel = 1 then 1 else 2
def boF (c : Cn) (i : Nat) : Cn := if c.rel = 0 then bo1 c else if c.rel = 1 then bo2 c else if i = 0 then bo1 c else bo2 c
def catN (n0 : Nat) (f g : Nat → Cn) (i : Nat) : Cn := if i < n0 then f i else g (i - n0)
def trueF (_ : Nat) : Bool := true
theorem boN_le (c : Cn) : boN c ≤ 2 := by
  unfold boN
  split
  · omega
  · split <;> omega
theorem sat_bo1 {x : Nat → Int} {c : Cn} : satG x (bo1 c) ↔ vF x c.b + c.cc ≤ vF x c.a := by
  unfold satG bo1
  constructor
  · intro h; exact h.1 (show (0 : Int) ≠ 1 by decide)
  · intro h; exact ⟨fun _ => h, fun q => absurd rfl q⟩
theorem sat_bo2 {x : Nat → Int} {c : Cn} : satG x (bo2 c) ↔ vF x c.a - c.cc ≤ vF x c.b := by
  unfold satG bo2
  constructor
  · intro h; have := h.1 (show (0 : Int) ≠ 1 by decide); dsimp only at this; omega
  · intro h; exact ⟨fun _ => by dsimp only; omega, fun q => absurd rfl q⟩
theorem sat_boF {x : Nat → Int} {c : Cn} (h : 0 ≤ c.rel ∧ c.rel ≤ 2) : (∀ i, i < boN c → satG x (boF c i)) ↔ satG x c := by
  unfold boN boF
  by_cases h0 : c.rel = 0
  · simp only [if_pos h0]
    constructor
    · intro q
      have := sat_bo1.1 (q 0 (by decide))
      exact ⟨fun _ => this, fun e => absurd h0 e⟩
    · intro q i hi
      exact sat_bo1.2 (q.1 (by omega))
  · simp only [if_neg h0]
    by_cases h1 : c.rel = 1
    · simp only [if_pos h1]
      constructor
      · intro q
        have := sat_bo2.1 (q 0 (by decide))
        exact ⟨fun e => absurd h1 e, fun _ => this⟩
      · intro q i hi
        exact sat_bo2.2 (q.2 h0)
    · simp only [if_neg h1]
      constructor
      · intro q
        have a := sat_bo1.1 (show satG x (bo1 c) by have := q 0 (by decide); rwa [if_pos rfl] at this)
        have b := sat_bo2.1 (show satG x (bo2 c) by have := q 1 (by decide); rwa [if_neg (by decide)] at this)
        exact ⟨fun _ => a, fun _ => b⟩
      · intro q i hi
        by_cases e : i = 0
        · rw [if_pos e]; exact sat_bo1.2 (q.1 h1)
        · rw [if_neg e]; exact sat_bo2.2 (q.2 h0)
theorem ok_boF {n : Int} {c : Cn} (h : okC n c) (i : Nat) : okC n (boF c i) ∧ (boF c i).rel = 0 := by
  obtain ⟨⟨⟨a1, a2⟩, b1, b2⟩, ⟨r1, r2⟩, ⟨c1, c2⟩, s1, s2⟩ := h
  have k1 : okC n (bo1 c) := ⟨⟨⟨a1, a2⟩, b1, b2⟩, ⟨(show (0 : Int) ≤ 0 by decide), (show (0 : Int) ≤ 2 by decide)⟩, ⟨c1, c2⟩, (show (0 : Int) ≤ 0 by decide), (show (0 : Int) ≤ 3 by decide)⟩
  have k2 : okC n (bo2 c) := ⟨⟨⟨b1, b2⟩, a1, a2⟩, ⟨(show (0 : Int) ≤ 0 by decide), (show (0 : Int) ≤ 2 by decide)⟩, ⟨by show -1048576 ≤ -c.cc; omega, by show -c.cc ≤ 1048576; omega⟩, (show (0 : Int) ≤ 0 by decide), (show (0 : Int) ≤ 3 by decide)⟩
  unfold boF
  split
  · exact ⟨k1, rfl⟩
  · split
    · exact ⟨k2, rfl⟩
    · split
      · exact ⟨k1, rfl⟩
      · exact ⟨k2, rfl⟩
/-- A list of bounds that says what the accepted constraints say. -/
structure Bds (n m : Nat) (l : Nat → Cn) (acc : Nat → Bool) (nb : Nat) (bl : Nat → Cn) : Prop where
  ok : ∀ k, k < nb → okC n (bl k) ∧ (bl k).rel = 0
  iff : ∀ x, (∀ k, k < nb → satG x (bl k)) ↔ ∀ k, k < m → acc k = true → satG x (l k)
section
variable {n m nb : Nat} {l bl : Nat → Cn} {acc acc' : Nat → Bool} {y : Nat → Int}
theorem Bds.zero : Bds n m l (fun _ => false) 0 bl := ⟨fun k hk => absurd hk (Nat.not_lt_zero _), fun x => ⟨fun _ k _ h => Bool.noConfusion h, fun _ k hk => absurd hk (Nat.not_lt_zero _)⟩⟩
theorem Bds.ext (h : Bds n m l acc nb bl) (ha : ∀ k, k < m → acc' k = acc k) : Bds n m l acc' nb bl :=
  ⟨h.ok, fun x => (h.iff x).trans ⟨fun q k hk hc => q k hk (by rw [← ha k hk]; exact hc), fun q k hk hc => q k hk (by rw [ha k hk]; exact hc)⟩⟩
theorem Bds.sol (h : Bds n m l acc nb bl) {x : Nat → Int} : Sol n nb bl trueF x ↔ Sol n m l acc x :=
  ⟨fun q => ⟨q.1, (h.iff x).1 fun k hk => q.2 k hk rfl⟩, fun q => ⟨q.1, fun k hk _ => (h.iff x).2 q.2 k hk⟩⟩
theorem Bds.feas (h : Bds n m l acc nb bl) : Feas n nb bl trueF ↔ Feas n m l acc := ⟨fun ⟨x, q⟩ => ⟨x, h.sol.1 q⟩, fun ⟨x, q⟩ => ⟨x, h.sol.2 q⟩⟩
theorem Bds.lst (h : Bds n m l acc nb bl) (q : Lst n nb bl trueF y) : Lst n m l acc y := ⟨h.sol.1 q.1, fun z hz => q.2 z (h.sol.2 hz)⟩
theorem Bds.add (h : Bds n m l acc nb bl) {k : Nat} (hk : k < m) (hc : okC n (l k)) : Bds n m l (updB acc k true) (nb + boN (l k)) (catN nb bl (boF (l k))) := by
  refine ⟨fun i hi => ?_, fun x => ⟨fun q j hj ha => ?_, fun q i hi => ?_⟩⟩
  · unfold catN
    split
    · exact h.ok i (by assumption)
    · exact ok_boF hc _
  · unfold updB at ha
    by_cases e : j = k
    · subst e
      refine (sat_boF hc.2.1).1 fun i hi => ?_
      have := q (nb + i) (by omega)
      unfold catN at this
      rw [if_neg (by omega), show nb + i - nb = i by omega] at this
      exact this
    · rw [if_neg e] at ha
      refine (h.iff x).1 (fun i hi => ?_) j hj ha
      have := q i (by omega)
      unfold catN at this
      rw [if_pos hi] at this
      exact this
  · unfold catN
    by_cases hi2 : i < nb
    · rw [if_pos hi2]
      by_cases hak : acc k = true
      · exact (h.iff x).2 (fun j hj ha => q j hj (by unfold updB; split; rfl; exact ha)) i hi2
      · exact (h.iff x).2 (fun j hj ha => q j hj (by unfold updB; split; rfl; exact ha)) i hi2
    · rw [if_neg hi2]
      exact (sat_boF hc.2.1).2 (q k hk (by unfold updB; rw [if_pos rfl])) _ (by omega)
end
/-! ### The passes -/
/-- What has been accepted when k constraints have been treated in the pass of strength s. -/
noncomputable def acP (n m : Nat) (l : Nat → Cn) : Nat → Nat → Nat → Bool
  | 0, k => fun j => decide (j < k) && ac0 l j
  | s + 1, k => acS n m l ((s : Int) + 1) (acB n m l s) k
section
variable {n m : Nat} {l : Nat → Cn}
theorem acP_zero (j : Nat) : acP n m l 0 0 j = false := by
  show (decide (j < 0) && ac0 l j) = false
  rw [decide_eq_false (Nat.not_lt_zero _)]; rfl
theorem acP_end {s j : Nat} (hj : j < m) : acP n m l s m j = acB n m l s j := by
  cases s with
  | zero => show (decide (j < m) && ac0 l j) = ac0 l j; rw [decide_eq_true hj]; rfl
  | succ s => rfl
theorem acP_pass {s j : Nat} (hj : j < m) : acP n m l (s + 1) 0 j = acP n m l s m j := by rw [acP_end hj]; rfl
theorem acP_off {s k : Nat} (h : ¬ (l k).st = (s : Int)) (j : Nat) : acP n m l s (k + 1) j = acP n m l s k j := by
  cases s with
  | zero =>
    show (decide (j < k + 1) && ac0 l j) = (decide (j < k) && ac0 l j)
    by_cases e : j = k
    · subst e
      have : ac0 l j = false := decide_eq_false (by exact h)
      rw [this, Bool.and_false, Bool.and_false]
    · congr 1
      by_cases hj : j < k
      · rw [decide_eq_true hj, decide_eq_true (by omega)]
      · rw [decide_eq_false hj, decide_eq_false (by omega)]
  | succ s =>
    show acS n m l _ _ (k + 1) j = acS n m l _ _ k j
    rw [acS_off (by rw [show ((s : Int) + 1) = ((s + 1 : Nat) : Int) by omega]; exact h)]
theorem acP_before {s k : Nat} (h : (l k).st = (s : Int)) : acP n m l s k k = false := by
  cases s with
  | zero => show (decide (k < k) && ac0 l k) = false; rw [decide_eq_false (Nat.lt_irrefl _)]; rfl
  | succ s =>
    refine acS_before (base := acB n m l s) ?_ (Nat.le_refl _)
    cases q : acB n m l s k with
    | false => rfl
    | true => have := acB_st q; omega
/-- Those that are accepted where the constraint's turn has come. -/
theorem acP_yes {s k : Nat} (h : (l k).st = (s : Int)) (hf : Feas n m l (updB (acP n m l s k) k true)) (j : Nat) : acP n m l s (k + 1) j = updB (acP n m l s k) k true j := by
  cases s with
  | zero =>
    show (decide (j < k + 1) && ac0 l j) = updB (fun j => decide (j < k) && ac0 l j) k true j
    unfold updB
    by_cases e : j = k
    · subst e
      rw [if_pos rfl, decide_eq_true (by omega)]
      exact decide_eq_true (by exact h)
    · rw [if_neg e]
      congr 1
      by_cases hj : j < k
      · rw [decide_eq_true hj, decide_eq_true (by omega)]
      · rw [decide_eq_false hj, decide_eq_false (by omega)]
  | succ s =>
    show acS n m l _ _ (k + 1) j = _
    rw [acS_yes (by rw [show ((s : Int) + 1) = ((s + 1 : Nat) : Int) by omega]; exact h) hf]
    rfl
theorem acP_no {s k : Nat} (h : (l k).st = ((s + 1 : Nat) : Int)) (hf : ¬ Feas n m l (updB (acP n m l (s + 1) k) k true)) (j : Nat) : acP n m l (s + 1) (k + 1) j = acP n m l (s + 1) k j := by
  show acS n m l _ _ (k + 1) j = _
  rw [acS_no (by rw [show ((s : Int) + 1) = ((s + 1 : Nat) : Int) by omega]; exact h) hf]
  rfl
/-- A required constraint that cannot stand beside those before it: the required ones have no solution. -/
theorem acP_conf {k : Nat} (hk : k < m) (h : (l k).st = 0) (hf : ¬ Feas n m l (updB (acP n m l 0 k) k true)) : ¬ Feas n m l (ac0 l) := fun ⟨x, hx⟩ => hf ⟨x, sol_acc hx fun j hj ha => by
  unfold updB at ha
  by_cases e : j = k
  · subst e; exact decide_eq_true h
  · rw [if_neg e] at ha
    exact (Bool.and_eq_true _ _ ▸ ha : _ ∧ _).2⟩
end
/-- What raising starts from: values that no solution goes below. -/
structure Low (n nb : Nat) (bl : Nat → Cn) (x : Nat → Int) : Prop where
  b : InB n x
  below : ∀ y, Sol n nb bl trueF y → ∀ i, i < n → x i ≤ y i
section
variable {n nb m : Nat} {bl l : Nat → Cn} {acc : Nat → Bool} {x y : Nat → Int}
theorem Low.rds (h : Low n nb bl x) : Rds n nb bl trueF x 0 := ⟨h.b, h.below, fun _ _ => Nat.zero_le _⟩
theorem Low.add (h : Bds n m l acc nb bl) (hy : Lst n m l acc y) {k : Nat} (hk : k < m) (hc : okC n (l k)) : Low n (nb + boN (l k)) (catN nb bl (boF (l k))) y :=
  ⟨hy.1.1, fun z hz i hi => hy.2 z (sol_acc ((h.add hk hc).sol.1 hz) fun j hj ha => by unfold updB; split; rfl; exact ha) i hi⟩
theorem lst_zero : Lst n m l (fun _ => false) (fun _ => 0) := ⟨⟨fun i _ => ⟨Int.le_refl _, show (0 : Int) ≤ 1048576 by omega⟩, fun k _ h => Bool.noConfusion h⟩, fun z hz i hi => (hz.1 i hi).1⟩
end
/-- The values of the variables, behind that of the variable -1. -/
def shF (x : Nat → Int) (i : Nat) : Int := if i = 0 then 0 else x (i - 1)
theorem shF_vF (x : Nat → Int) {a : Int} (h : -1 ≤ a) : shF x (a + 1).toNat = vF x a := by
  unfold shF vF
  by_cases h0 : a < 0
  · rw [if_pos h0, if_pos (by omega)]
  · rw [if_neg h0, if_neg (by omega)]
    congr 1
    omega
theorem shF_ra {x : Nat → Int} {a nn : Int} (h : 0 ≤ a) (hc : vF x a < nn) (j : Nat) : shF (raF x a nn) j = if j = (a + 1).toNat then nn else shF x j := by
  have hch : chF x a nn = true := by unfold chF; rw [decide_eq_true h, decide_eq_true hc]; rfl
  unfold shF
  by_cases h0 : j = 0
  · rw [if_pos h0, if_neg (by omega), if_pos h0]
  · rw [if_neg h0, if_neg h0]
    by_cases e : j = (a + 1).toNat
    · rw [if_pos e, show j - 1 = a.toNat by omega, ra_at hch]
    · rw [if_neg e]
      unfold raF
      rw [if_neg (fun q => e (by omega))]
end Go.Proofs.Ytdoncogkepopiaa
