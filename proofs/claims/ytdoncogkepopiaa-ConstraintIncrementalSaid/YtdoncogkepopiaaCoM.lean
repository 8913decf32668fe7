/- Systems of constraints in plain terms: solutions, the least one, which constraints are accepted; and that raising variables finds the least solution; no premise on the program. -/
import Derived.Test.YtdoncogkepopiaaBoA
import Derived.Test.YtdoncogkepopiaaSRow
namespace Go.Proofs.Ytdoncogkepopiaa
open Go.RowKit Go.Sort
set_option linter.unusedVariables false
set_option linter.unusedSimpArgs false

structure Cn where
  (a b rel cc st : Int)
def cnC (l : Nat → Cn) (i j : Nat) : Value := match j with
  | 0 => .int .i64 (l i).a
  | 1 => .int .i64 (l i).b
  | 2 => .int .i64 (l i).rel
  | 3 => .int .i64 (l i).cc
  | _ => .int .i64 (l i).st
def okC (vars : Int) (x : Cn) : Prop := ((-1 ≤ x.a ∧ x.a < vars) ∧ (-1 ≤ x.b ∧ x.b < vars)) ∧ (0 ≤ x.rel ∧ x.rel ≤ 2) ∧ (-1048576 ≤ x.cc ∧ x.cc ≤ 1048576) ∧ 0 ≤ x.st ∧ x.st ≤ 3
/-- The value of a variable. -/
def vF (x : Nat → Int) (i : Int) : Int := if i < 0 then 0 else x i.toNat
def satG (x : Nat → Int) (c : Cn) : Prop := (c.rel ≠ 1 → vF x c.b + c.cc ≤ vF x c.a) ∧ (c.rel ≠ 0 → vF x c.a - c.cc ≤ vF x c.b)
def InB (n : Nat) (x : Nat → Int) : Prop := ∀ i, i < n → 0 ≤ x i ∧ x i ≤ 1048576
def Sol (n m : Nat) (l : Nat → Cn) (acc : Nat → Bool) (x : Nat → Int) : Prop := InB n x ∧ ∀ k, k < m → acc k = true → satG x (l k)
def Feas (n m : Nat) (l : Nat → Cn) (acc : Nat → Bool) : Prop := ∃ x, Sol n m l acc x
def Lst (n m : Nat) (l : Nat → Cn) (acc : Nat → Bool) (y : Nat → Int) : Prop := Sol n m l acc y ∧ ∀ z, Sol n m l acc z → ∀ i, i < n → y i ≤ z i
theorem vF_neg {x : Nat → Int} {i : Int} (h : i < 0) : vF x i = 0 := by unfold vF; rw [if_pos h]
theorem vF_nat {x : Nat → Int} (i : Nat) : vF x (i : Int) = x i := by unfold vF; rw [if_neg (by omega), Int.toNat_natCast]
theorem vF_pos {x : Nat → Int} {i : Int} (h : 0 ≤ i) : vF x i = x i.toNat := by unfold vF; rw [if_neg (by omega)]
section
variable {n m : Nat} {l : Nat → Cn} {acc acc' : Nat → Bool} {x y z : Nat → Int}
theorem vF_le (hl : ∀ i, i < n → x i ≤ y i) {i : Int} (hi : i < n) : vF x i ≤ vF y i := by
  unfold vF
  split
  · exact Int.le_refl _
  · exact hl _ (by omega)
theorem vF_congr (hl : ∀ i, i < n → x i = y i) {i : Int} (hi : i < n) : vF x i = vF y i := by
  unfold vF
  split
  · rfl
  · exact hl _ (by omega)
theorem sat_congr (hl : ∀ i, i < n → x i = y i) {c : Cn} (hc : okC n c) (h : satG x c) : satG y c := by
  obtain ⟨⟨⟨_, h1⟩, _, h2⟩, _⟩ := hc
  unfold satG at h ⊢
  rw [← vF_congr hl h1, ← vF_congr hl h2]
  exact h
theorem sol_congr (hc : ∀ k, k < m → okC n (l k)) (hl : ∀ i, i < n → x i = y i) (h : Sol n m l acc x) : Sol n m l acc y :=
  ⟨fun i hi => by rw [← hl i hi]; exact h.1 i hi, fun k hk ha => sat_congr hl (hc k hk) (h.2 k hk ha)⟩
theorem vF_min (x z : Nat → Int) (i : Int) : vF (fun j => min (x j) (z j)) i = min (vF x i) (vF z i) := by
  unfold vF
  split
  · rfl
  · rfl
theorem sol_min (h : Sol n m l acc x) (h' : Sol n m l acc z) : Sol n m l acc (fun j => min (x j) (z j)) := by
  refine ⟨fun i hi => ?_, fun k hk ha => ?_⟩
  · have a := h.1 i hi
    have b := h'.1 i hi
    show 0 ≤ min (x i) (z i) ∧ min (x i) (z i) ≤ 1048576
    omega
  · have a := h.2 k hk ha
    have b := h'.2 k hk ha
    unfold satG at a b ⊢
    rw [vF_min, vF_min]
    refine ⟨fun q => ?_, fun q => ?_⟩
    · have a1 := a.1 q
      have b1 := b.1 q
      omega
    · have a1 := a.2 q
      have b1 := b.2 q
      omega
theorem sum_strict {f h : Nat → Int} : ∀ {n i : Nat}, (∀ j, j < n → f j ≤ h j) → i < n → f i < h i → sumF f n < sumF h n
  | n + 1, i, hle, hi, hlt => by
    simp only [sumF]
    have a := hle n (by omega)
    by_cases e : i = n
    · subst e
      have := sum_le (f := f) (h := h) i fun j hj => hle j (by omega)
      omega
    · have := sum_strict (f := f) (h := h) (n := n) (fun j hj => hle j (by omega)) (show i < n by omega) hlt
      omega
theorem least_down : ∀ (s : Nat) (x : Nat → Int), Sol n m l acc x → (sumF x n).toNat ≤ s → ∃ y, Lst n m l acc y
  | s, x, hx, hs => by
    by_cases h : ∀ z, Sol n m l acc z → ∀ i, i < n → x i ≤ z i
    · exact ⟨x, hx, h⟩
    · have : ∃ z, Sol n m l acc z ∧ ∃ i, i < n ∧ z i < x i := by
        refine Classical.byContradiction fun hn => h fun z hz i hi => ?_
        refine Classical.byContradiction fun hc => hn ⟨z, hz, i, hi, by omega⟩
      obtain ⟨z, hz, i, hi, hlt⟩ := this
      have hm := sol_min hx hz
      have h1 : sumF (fun j => min (x j) (z j)) n < sumF x n := sum_strict (i := i) (fun j _ => by show min (x j) (z j) ≤ x j; omega) hi (by show min (x i) (z i) < x i; omega)
      have h0 : 0 ≤ sumF (fun j => min (x j) (z j)) n := sum_nonneg n fun j hj => (hm.1 j hj).1
      match s, hs with
      | 0, hs => omega
      | s + 1, hs => exact least_down s _ hm (by omega)
theorem feas_least (h : Feas n m l acc) : ∃ y, Lst n m l acc y := by
  obtain ⟨x, hx⟩ := h
  exact least_down _ x hx (Nat.le_refl _)
theorem lst_same (h : Lst n m l acc x) (h' : Lst n m l acc y) {i : Nat} (hi : i < n) : x i = y i := by
  have a := h.2 y h'.1 i hi
  have b := h'.2 x h.1 i hi
  omega
/-- The least solution. -/
noncomputable def lvF (n m : Nat) (l : Nat → Cn) (acc : Nat → Bool) : Nat → Int := open Classical in if h : ∃ y, Lst n m l acc y then Classical.choose h else fun _ => 0
theorem lvF_spec (h : Feas n m l acc) : Lst n m l acc (lvF n m l acc) := by
  have hx := feas_least h
  unfold lvF
  rw [dif_pos hx]
  exact Classical.choose_spec hx
theorem lvF_of (h : Lst n m l acc y) {i : Nat} (hi : i < n) : y i = lvF n m l acc i := lst_same h (lvF_spec ⟨y, h.1⟩) hi
theorem sol_acc (h : Sol n m l acc x) (ha : ∀ k, k < m → acc' k = true → acc k = true) : Sol n m l acc' x := ⟨h.1, fun k hk hq => h.2 k hk (ha k hk hq)⟩
theorem sol_ext (h : Sol n m l acc x) (ha : ∀ k, k < m → acc' k = acc k) : Sol n m l acc' x := sol_acc h fun k hk hq => by rw [← ha k hk]; exact hq
theorem feas_ext (ha : ∀ k, k < m → acc' k = acc k) : Feas n m l acc' ↔ Feas n m l acc := ⟨fun ⟨x, h⟩ => ⟨x, sol_ext h fun k hk => (ha k hk).symm⟩, fun ⟨x, h⟩ => ⟨x, sol_ext h ha⟩⟩
theorem lst_ext (h : Lst n m l acc x) (ha : ∀ k, k < m → acc' k = acc k) : Lst n m l acc' x := ⟨sol_ext h.1 ha, fun z hz => h.2 z (sol_ext hz fun k hk => (ha k hk).symm)⟩
theorem lvF_ext (h : Feas n m l acc) (ha : ∀ k, k < m → acc' k = acc k) {i : Nat} (hi : i < n) : lvF n m l acc i = lvF n m l acc' i := lvF_of (lst_ext (lvF_spec h) ha) hi

/-! ### Raising -/
/-- Those whose value is not the least one yet. -/
def ust (x y : Nat → Int) (i : Nat) : Bool := !decide (x i = y i)
/-- Where not all variables have their least values, a constraint asks a further one for its least value. -/
theorem progress (hc : ∀ k, k < m → okC n (l k)) (hy : Lst n m l acc y) (h0 : ∀ i, i < n → 0 ≤ x i ∧ x i ≤ y i) (hu : ∃ i, i < n ∧ x i < y i) :
    ∃ i, i < n ∧ x i < y i ∧ ∃ k, k < m ∧ acc k = true ∧ (((l k).rel ≠ 1 ∧ (l k).a = i ∧ vF x (l k).b = vF y (l k).b ∧ vF y (l k).b + (l k).cc = y i) ∨ ((l k).rel ≠ 0 ∧ (l k).b = i ∧ vF x (l k).a = vF y (l k).a ∧ vF y (l k).a - (l k).cc = y i)) := by
  refine Classical.byContradiction fun hn => ?_
  have hno : ∀ i, i < n → x i < y i → ∀ k, k < m → acc k = true → ((l k).rel ≠ 1 → (l k).a = i → vF x (l k).b = vF y (l k).b → vF y (l k).b + (l k).cc ≠ y i) ∧ ((l k).rel ≠ 0 → (l k).b = i → vF x (l k).a = vF y (l k).a → vF y (l k).a - (l k).cc ≠ y i) := fun i hi hlt k hk ha =>
    ⟨fun q1 q2 q3 q4 => hn ⟨i, hi, hlt, k, hk, ha, Or.inl ⟨q1, q2, q3, q4⟩⟩, fun q1 q2 q3 q4 => hn ⟨i, hi, hlt, k, hk, ha, Or.inr ⟨q1, q2, q3, q4⟩⟩⟩
  obtain ⟨z, hz⟩ : ∃ z : Nat → Int, z = fun i => if x i = y i then y i else y i - 1 := ⟨_, rfl⟩
  have zy : ∀ i, z i ≤ y i := fun i => by rw [hz]; show (if x i = y i then y i else y i - 1) ≤ y i; split <;> omega
  have zs : ∀ i, x i = y i → z i = y i := fun i h => by rw [hz]; exact if_pos h
  have zu : ∀ i, ¬ x i = y i → z i = y i - 1 := fun i h => by rw [hz]; exact if_neg h
  have vzy : ∀ j : Int, j < n → vF z j ≤ vF y j := fun j hj => vF_le (fun i _ => zy i) hj
  have vzs : ∀ j : Int, vF x j = vF y j → vF z j = vF y j := fun j h => by
    by_cases hj : j < 0
    · rw [vF_neg hj, vF_neg hj]
    · rw [vF_pos (by omega), vF_pos (by omega)] at h ⊢; exact zs _ h
  have vzu : ∀ j : Int, ¬ vF x j = vF y j → vF z j = vF y j - 1 := fun j h => by
    by_cases hj : j < 0
    · rw [vF_neg hj, vF_neg hj] at h; exact absurd rfl h
    · rw [vF_pos (by omega), vF_pos (by omega)] at h ⊢; exact zu _ h
  have edge : ∀ (u v : Int) (d : Int), u < n → v < n → vF y v + d ≤ vF y u → (¬ vF x u = vF y u → vF x v = vF y v → vF y v + d ≠ vF y u) → vF z v + d ≤ vF z u := fun u v d hu' hv hle hna => by
    by_cases e : vF x u = vF y u
    · rw [vzs u e]
      have := vzy v hv
      omega
    · rw [vzu u e]
      by_cases e2 : vF x v = vF y v
      · rw [vzs v e2]
        have := hna e e2
        omega
      · rw [vzu v e2]
        omega
  have hsol : Sol n m l acc z := by
    refine ⟨fun i hi => ?_, fun k hk ha => ?_⟩
    · have a := h0 i hi
      have b := hy.1.1 i hi
      by_cases e : x i = y i
      · rw [zs i e]; exact b
      · rw [zu i e]; omega
    · obtain ⟨⟨⟨ka1, ka2⟩, kb1, kb2⟩, _⟩ := hc k hk
      have s := hy.1.2 k hk ha
      refine ⟨fun q => edge _ _ _ ka2 kb2 (s.1 q) fun e1 e2 e3 => ?_, fun q => ?_⟩
      · have ha0 : 0 ≤ (l k).a := Classical.byContradiction fun h => e1 (by rw [vF_neg (by omega), vF_neg (by omega)])
        rw [vF_pos ha0, vF_pos ha0] at e1
        have b := h0 (l k).a.toNat (by omega)
        rw [vF_pos (x := y) ha0] at e3
        exact ((hno (l k).a.toNat (by omega) (by omega) k hk ha).1 q (by omega) e2) e3
      · have := edge (l k).b (l k).a (-(l k).cc) kb2 ka2 (by have := s.2 q; omega) fun e1 e2 e3 => by
          have ha0 : 0 ≤ (l k).b := Classical.byContradiction fun h => e1 (by rw [vF_neg (by omega), vF_neg (by omega)])
          rw [vF_pos ha0, vF_pos ha0] at e1
          have b := h0 (l k).b.toNat (by omega)
          rw [vF_pos (x := y) ha0] at e3
          exact ((hno (l k).b.toNat (by omega) (by omega) k hk ha).2 q (by omega) e2) (by omega)
        omega
  obtain ⟨i, hi, hlt⟩ := hu
  have := hy.2 z hsol i hi
  have := zu i (by omega)
  omega
/-- What a round has done with the first k constraints: it began at x0. -/
structure Rnd (n m : Nat) (l : Nat → Cn) (acc : Nat → Bool) (x0 x : Nat → Int) (k : Nat) (any : Bool) : Prop where
  b : InB n x
  up : ∀ i, i < n → x0 i ≤ x i
  below : ∀ y, Sol n m l acc y → ∀ i, i < n → x i ≤ y i
  same : any = false → ∀ i, i < n → x i = x0 i
  more : any = true → ∃ i, i < n ∧ x0 i < x i
  done : ∀ j, j < k → acc j = true → ((l j).rel ≠ 1 → vF x0 (l j).b + (l j).cc ≤ vF x (l j).a) ∧ ((l j).rel ≠ 0 → vF x0 (l j).a - (l j).cc ≤ vF x (l j).b)
/-- Rounds that have come through r times, each time with a change. -/
structure Rds (n m : Nat) (l : Nat → Cn) (acc : Nat → Bool) (x : Nat → Int) (r : Nat) : Prop where
  b : InB n x
  below : ∀ y, Sol n m l acc y → ∀ i, i < n → x i ≤ y i
  cnt : ∀ y, Lst n m l acc y → r ≤ rk (ust x y) n
theorem Rds.zero : Rds n m l acc (fun _ => 0) 0 := ⟨fun _ _ => ⟨Int.le_refl _, by omega⟩, fun y h i hi => (h.1 i hi).1, fun _ _ => Nat.zero_le _⟩
theorem Rds.start {r : Nat} (h : Rds n m l acc x r) : Rnd n m l acc x x 0 false := ⟨h.b, fun _ _ => Int.le_refl _, h.below, fun _ _ _ => rfl, fun h => Bool.noConfusion h, fun j hj => absurd hj (Nat.not_lt_zero _)⟩
theorem Rds.next {r : Nat} (hc : ∀ k, k < m → okC n (l k)) (h : Rds n m l acc z r) (h' : Rnd n m l acc z x m true) : Rds n m l acc x (r + 1) := by
  refine ⟨h'.b, h'.below, fun y hy => ?_⟩
  have hz : ∀ i, i < n → 0 ≤ z i ∧ z i ≤ y i := fun i hi => ⟨(h.b i hi).1, h.below y hy.1 i hi⟩
  have hx : ∀ i, i < n → x i ≤ y i := fun i hi => h'.below y hy.1 i hi
  obtain ⟨i0, hi0, hlt0⟩ := h'.more rfl
  obtain ⟨i, hi, hlt, k, hk, ha, hor⟩ := progress hc hy hz ⟨i0, hi0, by have := hx i0 hi0; omega⟩
  have hxi : x i = y i := by
    have hle := hx i hi
    have dn := h'.done k hk ha
    rcases hor with ⟨q1, q2, q3, q4⟩ | ⟨q1, q2, q3, q4⟩
    · have := dn.1 q1
      rw [q2, vF_nat, q3] at this
      omega
    · have := dn.2 q1
      rw [q2, vF_nat, q3] at this
      omega
  have := h.cnt y hy
  have hlt2 := rk_lt_of (y := ust z y) (z := ust x y) (n := n) (fun j hj hu => by
    unfold ust at hu ⊢
    have a := hx j hj
    have b := h'.up j hj
    have c := (hz j hj).2
    simp only [Bool.not_eq_true', decide_eq_false_iff_not] at hu ⊢
    omega) ⟨i, hi, by unfold ust; rw [decide_eq_true hxi]; rfl, by unfold ust; rw [decide_eq_false (by omega)]; rfl⟩
  omega
theorem Rds.out {r : Nat} (h : Rds n m l acc x r) (hr : n < r) : ¬ Feas n m l acc := fun hf => by
  obtain ⟨y, hy⟩ := feas_least hf
  have := h.cnt y hy
  have := rk_le (ust x y) n
  omega
/-- A round without a change has found the least solution. -/
theorem Rnd.found (hc : ∀ k, k < m → okC n (l k)) (h : Rnd n m l acc z x m false) : Lst n m l acc x := by
  refine ⟨⟨h.b, fun k hk ha => ?_⟩, h.below⟩
  obtain ⟨⟨⟨_, k1⟩, _, k2⟩, _⟩ := hc k hk
  have dn := h.done k hk ha
  have e := h.same rfl
  rw [← vF_congr e k1, ← vF_congr e k2] at dn
  exact dn
theorem Rnd.skip {k : Nat} {any : Bool} (h : Rnd n m l acc z x k any) (ha : acc k = false) : Rnd n m l acc z x (k + 1) any :=
  ⟨h.b, h.up, h.below, h.same, h.more, fun j hj hq => by
    by_cases e : j = k
    · subst e; rw [ha] at hq; exact Bool.noConfusion hq
    · exact h.done j (by omega) hq⟩
end
/-! ### One variable is raised -/
def chF (x : Nat → Int) (i nn : Int) : Bool := decide (0 ≤ i) && decide (vF x i < nn)
def poF (x : Nat → Int) (i nn : Int) : Bool := if i < 0 then decide (nn ≤ 0) else if nn ≤ vF x i then true else decide (nn ≤ 1048576)
def raF (x : Nat → Int) (i nn : Int) (j : Nat) : Int := if chF x i nn ∧ j = i.toNat then nn else x j
section
variable {n m : Nat} {l : Nat → Cn} {acc : Nat → Bool} {x z : Nat → Int} {i nn : Int}
theorem ra_same (h : chF x i nn = false) (j : Nat) : raF x i nn j = x j := by
  unfold raF
  rw [if_neg (fun q => by rw [h] at q; exact Bool.noConfusion q.1)]
theorem ra_up (j : Nat) : x j ≤ raF x i nn j := by
  unfold raF
  split
  · rename_i q
    obtain ⟨q1, rfl⟩ := q
    unfold chF at q1
    rw [Bool.and_eq_true, decide_eq_true_eq, decide_eq_true_eq] at q1
    rw [vF_pos q1.1] at q1
    omega
  · exact Int.le_refl _
theorem ra_at (h : chF x i nn = true) : raF x i nn i.toNat = nn := by
  unfold raF
  rw [if_pos ⟨h, rfl⟩]
theorem ra_ge (h : poF x i nn = true) : nn ≤ vF (raF x i nn) i := by
  unfold poF at h
  by_cases hi : i < 0
  · rw [if_pos hi, decide_eq_true_eq] at h
    rw [vF_neg hi]
    exact h
  · rw [if_neg hi] at h
    rw [vF_pos (by omega)]
    by_cases hn : nn ≤ vF x i
    · rw [vF_pos (by omega)] at hn
      exact Int.le_trans hn (ra_up _)
    · have : chF x i nn = true := by unfold chF; rw [decide_eq_true (show 0 ≤ i by omega), decide_eq_true (show vF x i < nn by omega)]; rfl
      rw [ra_at this]
      exact Int.le_refl _
theorem ra_mono (j : Int) (hj : j < n) : vF x j ≤ vF (raF x i nn) j := vF_le (n := n) (fun k _ => ra_up k) hj
theorem Rnd.raise {k : Nat} {any : Bool} (hc : ∀ k, k < m → okC n (l k)) (hk : k ≤ m) (h : Rnd n m l acc z x k any) (hi : i < n) (hy : ∀ y, Sol n m l acc y → nn ≤ vF y i) (hp : poF x i nn = true) : Rnd n m l acc z (raF x i nn) k (any || chF x i nn) := by
  refine ⟨fun j hj => ?_, fun j hj => Int.le_trans (h.up j hj) (ra_up j), fun y hs j hj => ?_, fun hq j hj => ?_, fun hq => ?_, fun j hj ha => ?_⟩
  · have a := h.b j hj
    have b := ra_up (x := x) (i := i) (nn := nn) j
    refine ⟨by omega, ?_⟩
    unfold raF
    split
    · rename_i q
      obtain ⟨q1, rfl⟩ := q
      unfold chF at q1
      rw [Bool.and_eq_true, decide_eq_true_eq, decide_eq_true_eq] at q1
      unfold poF at hp
      rw [if_neg (by omega), if_neg (by omega), decide_eq_true_eq] at hp
      exact hp
    · exact a.2
  · unfold raF
    split
    · rename_i q
      obtain ⟨q1, rfl⟩ := q
      unfold chF at q1
      rw [Bool.and_eq_true, decide_eq_true_eq, decide_eq_true_eq] at q1
      have := hy y hs
      rw [vF_pos q1.1] at this
      exact this
    · exact h.below y hs j hj
  · rw [Bool.or_eq_false_iff] at hq
    rw [ra_same hq.2]
    exact h.same hq.1 j hj
  · rw [Bool.or_eq_true] at hq
    rcases hq with hq | hq
    · obtain ⟨j, hj, hlt⟩ := h.more hq
      exact ⟨j, hj, Int.lt_of_lt_of_le hlt (ra_up j)⟩
    · have q1 := hq
      unfold chF at q1
      rw [Bool.and_eq_true, decide_eq_true_eq, decide_eq_true_eq] at q1
      refine ⟨i.toNat, by omega, ?_⟩
      rw [ra_at hq]
      have := h.up i.toNat (by omega)
      rw [vF_pos q1.1] at q1
      omega
  · have dn := h.done j hj ha
    obtain ⟨⟨⟨_, k1⟩, _, k2⟩, _⟩ := hc j (by omega)
    exact ⟨fun q => Int.le_trans (dn.1 q) (ra_mono _ k1), fun q => Int.le_trans (dn.2 q) (ra_mono _ k2)⟩
theorem ra_none (hn0 : ∀ y, Sol n m l acc y → nn ≤ vF y i) (hi : i < n) (hb : ∀ y, Sol n m l acc y → ∀ j, j < n → x j ≤ y j) (hp : poF x i nn = false) : ¬ Feas n m l acc := fun ⟨y, hy⟩ => by
  have a := hn0 y hy
  unfold poF at hp
  by_cases h : i < 0
  · rw [if_pos h, decide_eq_false_iff_not] at hp
    rw [vF_neg h] at a
    omega
  · rw [if_neg h] at hp
    have b := hy.1 i.toNat (by omega)
    rw [vF_pos (x := y) (by omega)] at a
    split at hp
    · exact Bool.noConfusion hp
    · rw [decide_eq_false_iff_not] at hp
      omega
/-- What a constraint asks of a solution, it asks of what lies below. -/
theorem asks1 {k : Nat} {any : Bool} (hc : ∀ k, k < m → okC n (l k)) (h : Rnd n m l acc z x k any) (hk : k < m) (ha : acc k = true) (hr : (l k).rel ≠ 1) : ∀ y, Sol n m l acc y → vF x (l k).b + (l k).cc ≤ vF y (l k).a := fun y hy => by
  obtain ⟨⟨⟨_, k1⟩, _, k2⟩, _⟩ := hc k hk
  have a := (hy.2 k hk ha).1 hr
  have b := vF_le (n := n) (h.below y hy) k2
  omega
theorem asks2 {k : Nat} {any : Bool} (hc : ∀ k, k < m → okC n (l k)) (h : Rnd n m l acc z x k any) (hk : k < m) (ha : acc k = true) (hr : (l k).rel ≠ 0) : ∀ y, Sol n m l acc y → vF x (l k).a - (l k).cc ≤ vF y (l k).b := fun y hy => by
  obtain ⟨⟨⟨_, k1⟩, _, k2⟩, _⟩ := hc k hk
  have a := (hy.2 k hk ha).2 hr
  have b := vF_le (n := n) (h.below y hy) k1
  omega
/-- The values after the first half of a constraint, and after both. -/
def h1F (l : Nat → Cn) (k : Nat) (x : Nat → Int) : Nat → Int := if (l k).rel = 1 then x else raF x (l k).a (vF x (l k).b + (l k).cc)
def h2F (l : Nat → Cn) (k : Nat) (x : Nat → Int) : Nat → Int := if (l k).rel = 0 then x else raF x (l k).b (vF x (l k).a - (l k).cc)
theorem Rnd.half1 {k : Nat} {any : Bool} (hc : ∀ k, k < m → okC n (l k)) (h : Rnd n m l acc z x k any) (hk : k < m) (ha : acc k = true) (hr : (l k).rel ≠ 1) (hp : poF x (l k).a (vF x (l k).b + (l k).cc) = true) : Rnd n m l acc z (raF x (l k).a (vF x (l k).b + (l k).cc)) k (any || chF x (l k).a (vF x (l k).b + (l k).cc)) :=
  h.raise hc (by omega) (by obtain ⟨⟨⟨_, k1⟩, _, k2⟩, _⟩ := hc k hk; exact k1) (asks1 hc h hk ha hr) hp
theorem Rnd.half2 {k : Nat} {any : Bool} (hc : ∀ k, k < m → okC n (l k)) (h : Rnd n m l acc z x k any) (hk : k < m) (ha : acc k = true) (hr : (l k).rel ≠ 0) (hp : poF x (l k).b (vF x (l k).a - (l k).cc) = true) : Rnd n m l acc z (raF x (l k).b (vF x (l k).a - (l k).cc)) k (any || chF x (l k).b (vF x (l k).a - (l k).cc)) :=
  h.raise hc (by omega) (by obtain ⟨⟨⟨_, k1⟩, _, k2⟩, _⟩ := hc k hk; exact k2) (asks2 hc h hk ha hr) hp
/-- A constraint is done: what its two halves ask holds. -/
theorem Rnd.step {k : Nat} {any : Bool} (hc : ∀ k, k < m → okC n (l k)) (h : Rnd n m l acc z x k any) (hk : k < m) (h1 : (l k).rel ≠ 1 → vF z (l k).b + (l k).cc ≤ vF x (l k).a) (h2 : (l k).rel ≠ 0 → vF z (l k).a - (l k).cc ≤ vF x (l k).b) : Rnd n m l acc z x (k + 1) any :=
  ⟨h.b, h.up, h.below, h.same, h.more, fun j hj hq => by
    by_cases e : j = k
    · subst e; exact ⟨h1, h2⟩
    · exact h.done j (by omega) hq⟩
theorem Rnd.vup {k : Nat} {any : Bool} (h : Rnd n m l acc z x k any) {j : Int} (hj : j < n) : vF z j ≤ vF x j := vF_le (n := n) h.up hj
end

/-! ### Which constraints are accepted -/
def updB (f : Nat → Bool) (k : Nat) (v : Bool) (j : Nat) : Bool := if j = k then v else f j
noncomputable def acS (n m : Nat) (l : Nat → Cn) (s : Int) (base : Nat → Bool) : Nat → Nat → Bool
  | 0 => base
  | k + 1 => open Classical in if (l k).st = s ∧ Feas n m l (updB (acS n m l s base k) k true) then updB (acS n m l s base k) k true else acS n m l s base k
def ac0 (l : Nat → Cn) (k : Nat) : Bool := decide ((l k).st = 0)
noncomputable def ac1 (n m : Nat) (l : Nat → Cn) : Nat → Bool := acS n m l 1 (ac0 l) m
noncomputable def ac2 (n m : Nat) (l : Nat → Cn) : Nat → Bool := acS n m l 2 (ac1 n m l) m
noncomputable def ac3 (n m : Nat) (l : Nat → Cn) : Nat → Bool := acS n m l 3 (ac2 n m l) m
noncomputable def acB (n m : Nat) (l : Nat → Cn) : Nat → Nat → Bool
  | 0 => ac0 l
  | s + 1 => acS n m l ((s : Int) + 1) (acB n m l s) m
noncomputable def erS (vars : Int) (m : Nat) (l : Nat → Cn) : Int := open Classical in
  if vars < 0 ∨ 64 < vars then 1 else if 200 < m then 2 else if ¬ (∀ k, k < m → okC vars (l k)) then 1 else if Feas vars.toNat m l (ac0 l) then 0 else 13
section
variable {n m : Nat} {l : Nat → Cn} {acc base : Nat → Bool} {s : Int}
theorem acS_off {k : Nat} (h : ¬ (l k).st = s) : acS n m l s base (k + 1) = acS n m l s base k := by
  simp only [acS]
  rw [if_neg (fun q => h q.1)]
theorem acS_yes {k : Nat} (h : (l k).st = s) (hf : Feas n m l (updB (acS n m l s base k) k true)) : acS n m l s base (k + 1) = updB (acS n m l s base k) k true := by
  simp only [acS]
  rw [if_pos ⟨h, hf⟩]
theorem acS_no {k : Nat} (h : (l k).st = s) (hf : ¬ Feas n m l (updB (acS n m l s base k) k true)) : acS n m l s base (k + 1) = acS n m l s base k := by
  simp only [acS]
  rw [if_neg (fun q => hf q.2)]
/-- A constraint that is accepted is of one of the strengths that have been treated. -/
theorem acS_st {k j : Nat} (h : acS n m l s base k j = true) : base j = true ∨ ((l j).st = s ∧ j < k) := by
  induction k with
  | zero => exact Or.inl h
  | succ k ih =>
    by_cases h1 : (l k).st = s
    · by_cases hf : Feas n m l (updB (acS n m l s base k) k true)
      · rw [acS_yes h1 hf] at h
        unfold updB at h
        by_cases e : j = k
        · subst e; exact Or.inr ⟨h1, by omega⟩
        · rw [if_neg e] at h
          rcases ih h with q | q
          · exact Or.inl q
          · exact Or.inr ⟨q.1, by omega⟩
      · rw [acS_no h1 hf] at h
        rcases ih h with q | q
        · exact Or.inl q
        · exact Or.inr ⟨q.1, by omega⟩
    · rw [acS_off h1] at h
      rcases ih h with q | q
      · exact Or.inl q
      · exact Or.inr ⟨q.1, by omega⟩
theorem acS_feas (h : Feas n m l base) : ∀ k, Feas n m l (acS n m l s base k)
  | 0 => h
  | k + 1 => by
    by_cases h1 : (l k).st = s
    · by_cases hf : Feas n m l (updB (acS n m l s base k) k true)
      · rw [acS_yes h1 hf]; exact hf
      · rw [acS_no h1 hf]; exact acS_feas h k
    · rw [acS_off h1]; exact acS_feas h k
theorem acS_keep {j : Nat} (h : base j = true) : ∀ k, acS n m l s base k j = true
  | 0 => h
  | k + 1 => by
    by_cases h1 : (l k).st = s
    · by_cases hf : Feas n m l (updB (acS n m l s base k) k true)
      · rw [acS_yes h1 hf]
        unfold updB
        split
        · rfl
        · exact acS_keep h k
      · rw [acS_no h1 hf]; exact acS_keep h k
    · rw [acS_off h1]; exact acS_keep h k
theorem acB_st : ∀ {s j : Nat}, acB n m l s j = true → (l j).st ≤ s
  | 0, j, h => by
    have : (l j).st = 0 := of_decide_eq_true h
    omega
  | s + 1, j, h => by
    rcases acS_st (n := n) (m := m) h with q | q
    · have := acB_st q; omega
    · omega
theorem acB_feas (h : Feas n m l (ac0 l)) : ∀ s, Feas n m l (acB n m l s)
  | 0 => h
  | s + 1 => acS_feas (acB_feas h s) m
/-- In a pass a constraint of its strength is not accepted before its turn. -/
theorem acS_before {k j : Nat} (hb : base j = false) (hj : k ≤ j) : acS n m l s base k j = false := by
  cases h : acS n m l s base k j with
  | false => rfl
  | true =>
    rcases acS_st h with q | q
    · rw [hb] at q; exact Bool.noConfusion q
    · omega
end
end Go.Proofs.Ytdoncogkepopiaa
