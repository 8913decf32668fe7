/- Shares where the frozen elements stay in the list with the weight 0, and the rounds of the freezing over such a list; no premise on the program. -/
import Derived.Test.YtdoenkngmgclmaaBoA
import Derived.Test.YtdoenkngmgclmaaChecked
import Derived.Shelf.Bits.Mul64
import Derived.Test.YtdoenkngmgclmaaBoBa
import Derived.Test.YtdoenkngmgclmaaMixJ
import Derived.Deep.Cut
import Derived.Deep.LoopGhost
import Derived.Deep.RegionLaw
import Derived.Test.YtdoenkngmgclmaaBoB
import Derived.Test.YtdoenkngmgclmaaBoC
import Derived.BigQuiet
namespace Go.Proofs.Ytdoenkngmgclmaa
open Go.RowKit Go.Sort
set_option linter.unusedVariables false
set_option linter.unusedSimpArgs false

theorem rk_lt_iff {z : Nat → Bool} {y i : Nat} (hy : z y = false) (hi : z i = false) : rk z y < rk z i ↔ y < i := by
  constructor
  · intro h
    rcases Nat.lt_or_ge y i with l | l
    · exact l
    · have := rk_mono z (i := i) (n := y) l; omega
  · intro h; exact rk_lt h hy
section
variable {T : Int} {z : Nat → Bool} {a : Nat → Int} {n : Nat}
/-- The weights, 0 for those that are frozen. -/
def zro (z : Nat → Bool) (a : Nat → Int) (i : Nat) : Int := if z i then 0 else a i
theorem zro_yes {i : Nat} (h : z i = true) : zro z a i = 0 := by unfold zro; rw [h]; rfl
theorem zro_no {i : Nat} (h : z i = false) : zro z a i = a i := by unfold zro; rw [h]; rfl
theorem shr_zero (hg : Good (zro z a) n) {i : Nat} (hi : i < n) :
    shr T (zro z a) n i = if z i then 0 else shr T (pack z a n) (rk z n) (rk z i) := by
  have hgp : Good (pack z a n) (rk z n) := fun k hk => pack_all (p := fun v => 0 ≤ v ∧ v ≤ 2147483648) (fun j hj hz => by have := hg j hj; rw [zro_no hz] at this; exact this) hk
  have hs : sumF (pack z a n) (rk z n) = sumF (zro z a) n := sum_pack n
  have hP := shr_parts (T := T) hg
  have hQ := shr_parts (T := T) hgp
  rcases hP with ⟨e0, hP⟩ | ⟨hp, h, g, O, hP⟩
  · rw [hP i hi]
    cases hz : z i with
    | true => rfl
    | false =>
      rcases hQ with ⟨_, hQ⟩ | ⟨hq, _⟩
      · exact (hQ (rk z i) (rk_lt hi hz)).symm
      · omega
  · rw [hP i hi]
    rcases hQ with ⟨eq0, _⟩ | ⟨hq, h', g', O', hQ⟩
    · omega
    · rw [hs] at O' hQ
      have er : ∀ y, y < n → z y = false → remF T (sumF (zro z a) n) (zro z a) y = remF T (sumF (zro z a) n) (pack z a n) (rk z y) := fun y hy hz => by
        unfold remF; rw [zro_no hz, pack_at hy hz]
      have er0 : ∀ y, z y = true → remF T (sumF (zro z a) n) (zro z a) y = 0 := fun y hz => by
        unfold remF; rw [zro_yes hz, Int.mul_zero, Int.zero_emod]
      have eq : ∀ y, y < n → z y = false → quoF T (sumF (zro z a) n) (zro z a) y = quoF T (sumF (zro z a) n) (pack z a n) (rk z y) := fun y hy hz => by
        unfold quoF; rw [zro_no hz, pack_at hy hz]
      have eq0 : ∀ y, z y = true → quoF T (sumF (zro z a) n) (zro z a) y = 0 := fun y hz => by
        unfold quoF; rw [zro_yes hz, Int.mul_zero, Int.zero_ediv]
      have esq : sumF (quoF T (sumF (zro z a) n) (zro z a)) n = sumF (quoF T (sumF (zro z a) n) (pack z a n)) (rk z n) := by
        rw [← sum_ranks (z := z) (q := quoF T (sumF (zro z a) n) (pack z a n)) n]
        refine sum_congr n fun y hy => ?_
        cases hz : z y with
        | true => rw [eq0 y hz]; rfl
        | false => rw [eq y hy hz]; rfl
      generalize hS : sumF (zro z a) n = S at *
      cases hz : z i with
      | true =>
        unfold partF
        rw [eq0 i hz]
        have : ¬ (g i : Int) < T - sumF (quoF T S (zro z a)) n := fun hl => by
          have := rem_pos hS.symm hp O hi hl
          rw [er0 i hz] at this
          omega
        rw [if_neg this]
        rfl
      | false =>
        simp only [Bool.false_eq_true, if_false]
        rw [hQ (rk z i) (rk_lt hi hz)]
        unfold partF
        rw [eq i hi hz, esq]
        congr 1
        have hr0 := (rem_bound T S (zro z a) i hp).1
        rcases Int.lt_or_eq_of_le hr0 with hr | hr
        · have : (g i : Int) = (g' (rk z i) : Int) := by
            rw [O.count hi, O'.count (rk_lt hi hz), ← sum_ranks (z := z) n]
            refine sum_congr n fun y hy => ?_
            have e2 := er i hi hz
            cases hy2 : z y with
            | true =>
              have e1 := er0 y hy2
              have nb : ¬ before (remF T S (zro z a)) y i := fun hb => by unfold before at hb; omega
              simp only [if_neg nb, if_true]
            | false =>
              have e1 := er y hy hy2
              simp only [Bool.false_eq_true, if_false]
              have hb : before (remF T S (zro z a)) y i ↔ before (remF T S (pack z a n)) (rk z y) (rk z i) := by
                unfold before
                rw [← e1, ← e2, rk_lt_iff hy2 hz]
              by_cases hbb : before (remF T S (zro z a)) y i
              · rw [if_pos hbb, if_pos (hb.1 hbb)]
              · rw [if_neg hbb, if_neg (fun hh => hbb (hb.2 hh))]
          rw [this]
        · have n1 : ¬ (g i : Int) < T - sumF (quoF T S (pack z a n)) (rk z n) := fun hl => by
            have := rem_pos hS.symm hp O hi (by rw [esq]; exact hl)
            omega
          have n2 : ¬ (g' (rk z i) : Int) < T - sumF (quoF T S (pack z a n)) (rk z n) := fun hl => by
            have := rem_pos hs.symm hp O' (rk_lt hi hz) hl
            rw [← er i hi hz] at this
            omega
          rw [if_neg n1, if_neg n2]
end

/-! ### A round over the whole list -/
/-- What the list of sizes holds: the basis where an element is not frozen. -/
def szW (x : Nat → Fx) (s : Nat → Int) (z : Nat → Bool) (i : Nat) : Int := if z i then s i else (x i).ba
noncomputable def tgW (g : Bool) (sp : Int) (x : Nat → Fx) (n : Nat) (s : Nat → Int) (z : Nat → Bool) (i : Nat) : Int := if z i then s i else tgF g sp x n s z i
noncomputable def exW (g : Bool) (sp : Int) (x : Nat → Fx) (n : Nat) (s : Nat → Int) (z : Nat → Bool) (i : Nat) : Int := clF (x i) (tgW g sp x n s z i) - tgW g sp x n s z i
def samB (a b : Int) : Bool := (decide (0 < a) && decide (0 < b)) || (decide (a < 0) && decide (b < 0))
theorem cl_twice (y : Fx) (u : Int) : clF y (clF y u) = clF y u := by
  unfold clF clampS
  (repeat' split) <;> omega
section
variable {g : Bool} {sp : Int} {x : Nat → Fx} {n : Nat} {s : Nat → Int} {z : Nat → Bool}
theorem zro_good (hx : ∀ i, i < n → okF (x i)) : Good (zro z (wtF g x)) n := fun k hk => by
  have := wt_bd (g := g) (hx k hk)
  unfold zro
  split <;> omega
theorem tgW_eq (hx : ∀ i, i < n → okF (x i)) {i : Nat} (hi : i < n) :
    szW x s z i + sgF g * shr (max (sgF g * (sp - sumF (szW x s z) n)) 0) (zro z (wtF g x)) n i = tgW g sp x n s z i := by
  have e : max (sgF g * (sp - sumF (szW x s z) n)) 0 = totF g sp x n s z := by
    unfold totF freF
    rw [Int.max_comm]
    rfl
  rw [e, shr_zero (zro_good hx) hi]
  unfold szW tgW tgF
  cases hz : z i with
  | true => simp
  | false => simp
theorem exW_frozen {i : Nat} (hs : ∃ u, s i = clF (x i) u) (hz : z i = true) : exW g sp x n s z i = 0 := by
  obtain ⟨u, hu⟩ := hs
  unfold exW tgW
  rw [hz]
  simp only [if_true]
  rw [hu, cl_twice]
  omega
theorem exW_sum (hs : ∀ i, ∃ u, s i = clF (x i) u) : sumF (exW g sp x n s z) n = vioF g sp x n s z := by
  unfold vioF
  refine sum_congr n fun i hi => ?_
  cases hz : z i with
  | true => rw [exW_frozen (hs i) hz]; rfl
  | false =>
    unfold exW tgW
    rw [hz]
    rfl
theorem sam_hit {v c t : Int} (hv : v ≠ 0) : samB (c - t) v = hitB v c t := by
  unfold samB hitB
  have e1 : decide (v = 0) = false := decide_eq_false hv
  have e2 : decide (0 < c - t) = decide (t < c) := by by_cases h : t < c <;> simp [h] <;> omega
  have e3 : decide (c - t < 0) = decide (c < t) := by by_cases h : c < t <;> simp [h] <;> omega
  rw [e1, e2, e3, Bool.false_or, Bool.and_comm (decide (t < c)), Bool.and_comm (decide (c < t))]
/-- Whether a round sets the element i. -/
noncomputable def setB (g : Bool) (sp : Int) (x : Nat → Fx) (n : Nat) (s : Nat → Int) (z : Nat → Bool) (i : Nat) : Bool :=
  decide (vioF g sp x n s z = 0) || samB (exW g sp x n s z i) (vioF g sp x n s z)
theorem set_weight {i : Nat} (hs : ∃ u, s i = clF (x i) u) : (if setB g sp x n s z i then 0 else zro z (wtF g x) i) = zro (fun i => (stepF g sp x n s z i).2) (wtF g x) i := by
  unfold zro stepF
  cases hz : z i with
  | true => simp [hz]
  | false =>
    have e : setB g sp x n s z i = hitB (vioF g sp x n s z) (clF (x i) (tgF g sp x n s z i)) (tgF g sp x n s z i) := by
      unfold setB
      by_cases hv : vioF g sp x n s z = 0
      · simp [hv, hitB]
      · rw [decide_eq_false hv, Bool.false_or]
        have : exW g sp x n s z i = clF (x i) (tgF g sp x n s z i) - tgF g sp x n s z i := by unfold exW tgW; rw [hz]; rfl
        rw [this, sam_hit hv]
    rw [e]
    simp only [Bool.false_eq_true, if_false]
    split <;> simp_all
theorem set_size {i : Nat} (hs : ∃ u, s i = clF (x i) u) : (if setB g sp x n s z i then tgW g sp x n s z i + exW g sp x n s z i else szW x s z i) = szW x (fun i => (stepF g sp x n s z i).1) (fun i => (stepF g sp x n s z i).2) i := by
  unfold szW stepF
  cases hz : z i with
  | true =>
    have e0 := exW_frozen (g := g) (sp := sp) (n := n) hs hz
    have e1 : tgW g sp x n s z i = s i := by unfold tgW; rw [hz]; rfl
    rw [e0, e1]
    simp [hz]
  | false =>
    have e : setB g sp x n s z i = hitB (vioF g sp x n s z) (clF (x i) (tgF g sp x n s z i)) (tgF g sp x n s z i) := by
      unfold setB
      by_cases hv : vioF g sp x n s z = 0
      · simp [hv, hitB]
      · rw [decide_eq_false hv, Bool.false_or]
        have : exW g sp x n s z i = clF (x i) (tgF g sp x n s z i) - tgF g sp x n s z i := by unfold exW tgW; rw [hz]; rfl
        rw [this, sam_hit hv]
    have e2 : tgW g sp x n s z i + exW g sp x n s z i = clF (x i) (tgF g sp x n s z i) := by
      unfold exW tgW; rw [hz]; simp only [Bool.false_eq_true, if_false]; omega
    rw [e, e2]
    simp only [Bool.false_eq_true, if_false]
    split <;> simp_all
end
section
variable {g : Bool} {sp : Int} {x : Nat → Fx} {n : Nat}
/-- The weights are positive where an element is not frozen. -/
theorem it_wt (hx : ∀ i, i < n → okF (x i)) (k : Nat) {i : Nat} (hi : i < n) (hz : (itS g sp x n k).2 i = false) : 0 < wtF g x i := by
  have h0 : fr0 g x i = false := by
    cases hf : fr0 g x i with
    | false => rfl
    | true => rw [(it_first (sp := sp) (n := n) hf k).2] at hz; exact absurd hz (by simp)
  have hw := wt_bd (g := g) (hx i hi)
  unfold fr0 at h0
  simp only [Bool.or_eq_false_iff, decide_eq_false_iff_not] at h0
  have := h0.1.1
  omega
theorem it_open (hx : ∀ i, i < n → okF (x i)) (k : Nat) : 0 < sumF (zro (itS g sp x n k).2 (wtF g x)) n ↔ 0 < rk (itS g sp x n k).2 n := by
  have hg := zro_good (g := g) (z := (itS g sp x n k).2) hx
  constructor
  · intro h
    rcases Nat.eq_zero_or_pos (rk (itS g sp x n k).2 n) with h0 | h0
    · have : sumF (zro (itS g sp x n k).2 (wtF g x)) n = sumF (fun _ => 0) n := sum_congr n fun i hi => zro_yes (rk_zero h0 hi)
      rw [sum_zero] at this
      omega
    · exact h0
  · intro h
    have hex : ∃ i, i < n ∧ (itS g sp x n k).2 i = false := by
      refine Classical.byContradiction fun hn => ?_
      have := rk_all (z := (itS g sp x n k).2) (n := n) fun i hi => by
        cases hz : (itS g sp x n k).2 i with
        | true => rfl
        | false => exact absurd ⟨i, hi, hz⟩ hn
      omega
    obtain ⟨i, hi, hz⟩ := hex
    have a := le_sum n (fun j hj => (hg j hj).1) i hi
    have b := it_wt hx k hi hz
    rw [zro_no hz] at a
    omega
/-- The start: an element is not frozen where its weight is positive and its natural size lies in the direction. -/
theorem start_z {i : Nat} (hx : okF (x i)) : fr0 g x i = !(decide (0 < wtF g x i) && decide (0 ≤ sgF g * (natF x i - (x i).ba))) := by
  have hw := wt_bd (g := g) hx
  unfold fr0
  cases g with
  | true =>
    have e1 : decide (0 < wtF true x i) = !decide (wtF true x i = 0) := by by_cases h : wtF true x i = 0 <;> simp [h] <;> omega
    have e2 : decide (0 ≤ sgF true * (natF x i - (x i).ba)) = !decide (natF x i < (x i).ba) := by
      unfold sgF
      by_cases h : natF x i < (x i).ba <;> simp [h] <;> omega
    rw [e1, e2]
    cases decide (wtF true x i = 0) <;> cases decide (natF x i < (x i).ba) <;> simp
  | false =>
    have e1 : decide (0 < wtF false x i) = !decide (wtF false x i = 0) := by by_cases h : wtF false x i = 0 <;> simp [h] <;> omega
    have e2 : decide (0 ≤ sgF false * (natF x i - (x i).ba)) = !decide ((x i).ba < natF x i) := by
      unfold sgF
      by_cases h : (x i).ba < natF x i <;> simp [h] <;> omega
    rw [e1, e2]
    cases decide (wtF false x i = 0) <;> cases decide ((x i).ba < natF x i) <;> simp
end
end Go.Proofs.Ytdoenkngmgclmaa
/- bits.Mul, as this program bears it: the shelf's contract laid at this program's numbers. -/
namespace Go.Proofs.Ytdoenkngmgclmaa
open Go.Shelf
end Go.Proofs.Ytdoenkngmgclmaa
/- slices.Repeat of one integer, and package box's repeat: a row of as many copies; at most 100000. -/
namespace Go.Proofs.Ytdoenkngmgclmaa
open Go.RowKit Go.Sort
set_option linter.unusedVariables false
set_option linter.unusedSimpArgs false

theorem splice_ints {n o m : Nat} {f P : Nat → Int} (h : o + m ≤ n) : (splice (ints n f).toList o (vals m P)).toArray = ints n (fun j => if o ≤ j ∧ j < o + m then P (j - o) else f j) := by
  have hl : (ints n f).toList.length = n := by simp
  have hc : ∀ i, i < n → (ints n f).toList[i]? = some (.int .i64 (f i)) := fun i hi => by
    have := ints_get f hi
    simpa using this
  have ht : ((ints n f).toList.take o).length = o := by rw [List.length_take, hl]; omega
  apply Array.ext_getElem?
  intro j
  rw [List.getElem?_toArray]
  unfold splice
  by_cases hj : j < n
  · rw [ints_get _ hj]
    rcases Nat.lt_or_ge j o with h1 | h1
    · rw [List.getElem?_append_left (by rw [ht]; omega), List.getElem?_take, if_pos h1, hc j hj, if_neg (by omega)]
    · rw [List.getElem?_append_right (by rw [ht]; omega), ht]
      rcases Nat.lt_or_ge j (o + m) with h2 | h2
      · rw [List.getElem?_append_left (by rw [vals_len]; omega), vals_get P (by omega), if_pos ⟨h1, h2⟩]
      · rw [List.getElem?_append_right (by rw [vals_len]; omega), vals_len, List.getElem?_drop, show o + m + (j - o - m) = j by omega, hc j hj, if_neg (by omega)]
  · rw [Array.getElem?_eq_none (by simp; omega), List.getElem?_eq_none (by
      rw [List.length_append, ht, List.length_append, vals_len, List.length_drop, hl]; omega)]
theorem irow_splice {W : World} {b n o m : Nat} {f g P : Nat → Int} (hw : W.heap[b]? = some (.cells (splice (ints n f).toList o (vals m P)).toArray 3 (0, 0))) (h : o + m ≤ n)
    (hg : ∀ j, j < n → (if o ≤ j ∧ j < o + m then P (j - o) else f j) = g j) : IRow W b n g := by
  rw [splice_ints h] at hw
  exact IRow.congr (f := fun j => if o ≤ j ∧ j < o + m then P (j - o) else f j) hw hg
theorem vals_cells {w : World} {b o m : Nat} {P : Nat → Int} (h : ∀ j, j < m → w.cell? ⟨b, o + j, none⟩ = some (.int .i64 (P j))) : ∀ j v, (vals m P)[j]? = some v → w.cell? ((Addr.mk b o none).add j) = some v := fun j v hv => by
  have hj : j < m := by
    rcases Nat.lt_or_ge j m with h | h
    · exact h
    · rw [List.getElem?_eq_none (by rw [vals_len]; exact h)] at hv; cases hv
  rw [vals_get P hj] at hv
  cases hv
  have : (Addr.mk b o none).add j = ⟨b, o + j, none⟩ := by unfold Addr.add; by_cases h0 : j = 0 <;> simp [h0]
  rw [this]
  exact h j hj
theorem vals_one {m : Nat} {P : Nat → Int} : ∀ v ∈ vals m P, v.oneCell' = true := fun v hv => by obtain ⟨i, hi, rfl⟩ := List.mem_map.1 hv; rfl

/-- What stands behind the copy, the sum, the assignment. -/
def cpSt (A0 A1 : World → Prop) (m s : Int) : List Value → World → Prop
  | [], W => A0 W
  | [v], W => v = .int .i64 m ∧ A1 W
  | [_, u], W => u = .int .i64 s ∧ A1 W
  | _ :: _ :: z :: _, W => z = .int .i64 s ∧ A1 W
theorem does_copy {P : Program} {w : World} {o : Oper} {ev : Operand → Value} {R : Value → World → Prop} (d s : Operand) (dT sT : TypeId)
    (ho : o.op = .call { callee := .builtin .copy, args := #[d, s], argTypes := #[dT, sT] }) (elem : TypeId) (hu : P.underlying dT = some (.slice elem)) (hsz : (P.info? elem).map (·.size) = some 1)
    (g off dLen dCap : Nat) (ad : Addr) (sLen sCap : Nat) (hd : ev d = .slice (some ⟨g, off, none⟩) dLen dCap) (hs : ev s = .slice (some ad) sLen sCap)
    (cur : List Value) (t : TypeId) (hg : w.heap[g]? = some (.cells cur.toArray t (0, 0))) (cs : List Value) (hn : cs.length = Nat.min sLen dLen)
    (hsrc : ∀ j v, cs[j]? = some v → w.cell? (ad.add j) = some v) (hfit : off + cs.length ≤ cur.length) (h1 : ∀ v ∈ cs, v.oneCell' = true)
    (h : ∀ w', w'.heap[g]? = some (.cells (splice cur off cs).toArray t (0, 0)) → Below g w w' → R (goInt cs.length) w') : does P o ev w R := by
  have hrun := run_copy_row (P := P) w dT sT o.type elem g off dLen dCap ad sLen sCap cur.toArray t cs hu hsz hg hn hsrc (by simpa using hfit) h1
  unfold does execOp
  simp only [ho, resolve, invoke, builtin, Sem.run_bind, Sem.run_pure, Result.andThen_ok, List.map_toArray, List.map_cons, List.map_nil, hd, hs, hrun, doesUpon]
  refine h _ (show _ = _ by simpa [splice] using setRow_heap w g _ _ t _ hg) (below_setRow (Below.refl _ _) (Nat.le_refl _) _)

end Go.Proofs.Ytdoenkngmgclmaa
/- What the small functions of package box return: within, gapSum, place, start, sameSign, limited, weight; and sumOf and lengths over slices that read as integers. -/
namespace Go.Proofs.Ytdoenkngmgclmaa
open Go.RowKit Go.Sort
set_option linter.unusedVariables false
set_option linter.unusedSimpArgs false

theorem below_drewN {B : Nat} {a w : World} (h : Below B a w) (n : Nat) : Below B a (w.drewN n) := ⟨h.os, h.tape, h.output, h.size, h.block⟩
def inB (x lo hi : Int) : Bool := decide (lo ≤ x ∧ x ≤ hi)
theorem bwithin_any (x lo hi : Int) (w : World) :
    Calls Try.prog 68 #[.int .i64 x, .int .i64 lo, .int .i64 hi] w fun e w' => e = .returned (.bool (inB x lo hi)) ∧ w = w' := by
  unfold inB
  by_cases h1 : lo ≤ x
  · by_cases h2 : x ≤ hi
    · rw [decide_eq_true ⟨h1, h2⟩]
      go_enter Try.func68, Try.ntmps68
      go_wp2
      go_ret
      exact ⟨rfl, rfl⟩
    · rw [decide_eq_false (fun h => h2 h.2)]
      go_enter Try.func68, Try.ntmps68
      go_wp2
      go_ret
      exact ⟨rfl, rfl⟩
  · rw [decide_eq_false (fun h => h1 h.1)]
    go_enter Try.func68, Try.ntmps68
    go_wp2
    go_ret
    exact ⟨rfl, rfl⟩
def gsF (gap : Int) (n : Nat) : Int := gap * max ((n : Int) - 1) 0
theorem gs_spc (av gap : Int) (n : Nat) : av - gsF gap n = spcF av gap n := by
  unfold gsF spcF
  by_cases h : n = 0
  · rw [if_pos h]; subst h; rw [show max (((0 : Nat) : Int) - 1) 0 = 0 by omega, Int.mul_zero, Int.sub_zero]
  · rw [if_neg h, show max ((n : Int) - 1) 0 = (n : Int) - 1 by omega]
theorem gs_bd {gap : Int} {n : Nat} (hg : 0 ≤ gap ∧ gap ≤ 1048576) (hn : n ≤ 100000) : 0 ≤ gsF gap n ∧ gsF gap n ≤ 1048576 * n := by
  unfold gsF
  have a : 0 ≤ max ((n : Int) - 1) 0 ∧ max ((n : Int) - 1) 0 ≤ n := by omega
  obtain ⟨a1, a2⟩ := a
  generalize max ((n : Int) - 1) 0 = m at *
  exact ⟨Int.mul_nonneg hg.1 a1, Int.mul_le_mul hg.2 a2 a1 (by omega)⟩
theorem gapSum_any (gap : Int) (n : Nat) (w : World) (hg : 0 ≤ gap ∧ gap ≤ 1048576) (hn : n ≤ 100000) :
    Calls Try.prog 59 #[.int .i64 gap, .int .i64 (n : Int)] w fun e w' => e = .returned (.int .i64 (gsF gap n)) ∧ w = w' := by
  have b := gs_bd hg hn
  have e0 : IntKind.i64.wrap (gap * max ((n : Int) - 1) 0) = gap * max ((n : Int) - 1) 0 := wr (by unfold gsF at b; omega) (by unfold gsF at b; omega)
  unfold gsF
  clear b
  rcases (show n = 0 ∨ 1 ≤ n by omega) with h | h
  · subst h
    clear e0 hg hn
    have e1 : max (-1 : Int) 0 = 0 := by omega
    go_enter Try.func59, Try.ntmps59
    go_wp2
    go_ret
    exact ⟨ret_int (by simp [e1]), rfl⟩
  · have e1 : max ((n : Int) - 1) 0 = (n : Int) - 1 := by omega
    rw [e1] at e0 ⊢
    go_enter Try.func59, Try.ntmps59
    go_wp2
    go_ret
    exact ⟨by first | rfl | simp_all, rfl⟩
def plF (at_ av ex : Int) (r : Bool) : Int := if r then av - ex - at_ else at_
theorem sameSign_any (a b : Int) (w : World) :
    Calls Try.prog 74 #[.int .i64 a, .int .i64 b] w fun e w' => e = .returned (.bool (samB a b)) ∧ w = w' := by
  unfold samB
  rcases Int.lt_trichotomy a 0 with ha | rfl | ha <;> rcases Int.lt_trichotomy b 0 with hb | rfl | hb
  all_goals
    go_enter Try.func74, Try.ntmps74
    go_wp2
    go_ret
    exact ⟨ret_bool (by simp <;> omega), rfl⟩
set_option maxHeartbeats 1000000 in
theorem bsum_any (p : Option Addr) (n c : Nat) (f : Nat → Int) (w : World) (hn : n ≤ 1048576) (hf : ∀ k, k < n → -4398046511104 ≤ f k ∧ f k ≤ 4398046511104) (hr : Reads w p n f) :
    Calls Try.prog 70 #[.slice p n c] w fun e w' => e = .returned (.int .i64 (sumF f n)) ∧ w = w' := by
  rcases Nat.eq_zero_or_pos n with rfl | hp
  · clear hr hf
    go_enter Try.func70, Try.ntmps70
    go_wp2
    refine wp_loop_rounds 1 ?_
    rw [rounds_succ]
    go_wp2
    go_ret
    exact ⟨rfl, rfl⟩
  · obtain ⟨b, off, rfl, hc⟩ := hr hp
    have HC := hide hc
    have HF := hide hf
    have hb : ∀ k, k ≤ n → -(k : Int) * 4398046511104 ≤ sumF f k ∧ sumF f k ≤ k * 4398046511104 := by
      intro k
      induction k with
      | zero => intro _; simp [sumF]
      | succ k ih =>
        intro hk
        have := ih (by omega)
        have := hf k (by omega)
        simp only [sumF]
        omega
    have HB := hide hb
    clear hr hc hf hb
    go_enter Try.func70, Try.ntmps70
    go_wp2
    go_loop [3, 8] (fun s i => ∃ k : Nat, k ≤ n ∧ i = .int .i64 k ∧ s = .int .i64 (sumF f k)) (fun _ i => n - (intOf i).toNat)
    case atStart => exact ⟨0, Nat.zero_le _, rfl, rfl⟩
    case round =>
      obtain ⟨k, hk, rfl, rfl⟩ := hrel
      by_cases hlt : k < n
      · have hltz : (k : Int) < (n : Int) := by omega
        have ck := HC.out k hlt
        have fk := HF.out k hlt
        have bk := HB.out k hk
        have E : Hid (sumF f (k + 1) = sumF f k + f k) := rfl
        obtain ⟨fk1, fk2⟩ := fk
        obtain ⟨bk1, bk2⟩ := bk
        go_wp2
        go_round
        case rel => exact ⟨k + 1, by omega, by go_num, by rw [E.out]⟩
        case measure => simp [intOf]; omega
      · have hltz : ¬ (k : Int) < (n : Int) := by omega
        obtain rfl : n = k := by omega
        go_wp2
        go_ret
        exact ⟨rfl, rfl⟩
/-- All of the first numbers are lengths. -/
def lensB (f : Nat → Int) : Nat → Bool
  | 0 => true
  | n + 1 => lensB f n && lenB (f n)
theorem lensB_iff (f : Nat → Int) : ∀ n, lensB f n = true ↔ ∀ i, i < n → 0 ≤ f i ∧ f i ≤ 1048576
  | 0 => ⟨fun _ i h => absurd h (Nat.not_lt_zero _), fun _ => rfl⟩
  | n + 1 => by
    rw [lensB, Bool.and_eq_true, lensB_iff f n]
    have hl : lenB (f n) = true ↔ 0 ≤ f n ∧ f n ≤ 1048576 := by simp [lenB]
    rw [hl]
    constructor
    · rintro ⟨h, h0⟩ i hi
      rcases Nat.lt_or_ge i n with l | l
      · exact h i l
      · rw [show i = n by omega]; exact h0
    · intro h
      exact ⟨fun i hi => h i (by omega), h n (by omega)⟩
theorem lensB_not {f : Nat → Int} {n k : Nat} (hk : k < n) (h : lenB (f k) = false) : lensB f n = false := by
  cases hl : lensB f n with
  | false => rfl
  | true =>
    have := (lensB_iff f n).1 hl k hk
    have h2 : lenB (f k) = true := decide_eq_true this
    rw [h] at h2
    exact Bool.noConfusion h2
set_option maxHeartbeats 1000000 in
theorem lengths_any (p : Option Addr) (n c : Nat) (f : Nat → Int) (w : World) (hn : n ≤ 1048576) (hr : Reads w p n f) :
    Calls Try.prog 67 #[.slice p n c] w fun e w' => e = .returned (.bool (lensB f n)) ∧ w = w' := by
  rcases Nat.eq_zero_or_pos n with rfl | hp
  · clear hr
    go_enter Try.func67, Try.ntmps67
    go_wp2
    refine wp_loop_rounds 1 ?_
    rw [rounds_succ]
    go_wp2
    go_ret
    exact ⟨rfl, rfl⟩
  · obtain ⟨b, off, rfl, hc⟩ := hr hp
    have HC := hide hc
    clear hr hc
    go_enter Try.func67, Try.ntmps67
    go_wp2
    go_loop [7] (fun i => ∃ k : Nat, k ≤ n ∧ i = .int .i64 k ∧ Hid (lensB f k = true)) (fun i => n - (intOf i).toNat)
    case atStart => exact ⟨0, Nat.zero_le _, rfl, rfl⟩
    case round =>
      obtain ⟨k, hk, rfl, T⟩ := hrel
      by_cases hlt : k < n
      · have hltz : (k : Int) < (n : Int) := by omega
        have ck := HC.out k hlt
        have W := fun W => hide (bwithin_any (f k) 0 1048576 W)
        have e0 : inB (f k) 0 1048576 = lenB (f k) := rfl
        rw [e0] at W
        cases hl : lenB (f k) with
        | true =>
          have T2 : Hid (lensB f (k + 1) = true) := by show _ = _; rw [lensB, T.out, hl]; rfl
          rw [hl] at W
          clear hl e0 T
          go_wp2_with fail
          refine (W _).out.mono ?_
          rintro e w' ⟨rfl, rfl⟩
          go_wp2_with fail
          go_round
          case rel => exact ⟨k + 1, by omega, by go_num, T2⟩
          case measure => simp [intOf]; omega
        | false =>
          have e9 := hide (lensB_not hlt hl)
          rw [hl] at W
          clear hl e0 T
          go_wp2_with fail
          refine (W _).out.mono ?_
          rintro e w' ⟨rfl, rfl⟩
          go_wp2_with fail
          go_ret
          rw [e9.out]
          exact ⟨rfl, rfl⟩
      · have hltz : ¬ (k : Int) < (n : Int) := by omega
        obtain rfl : n = k := by omega
        go_wp2
        go_ret
        rw [T.out]
        exact ⟨rfl, rfl⟩
end Go.Proofs.Ytdoenkngmgclmaa
/- Toward package box's Resolve: the checks, limited, weight, the natural sizes; rows of elements that come in. -/
namespace Go.Proofs.Ytdoenkngmgclmaa
open Go.RowKit Go.Sort
set_option linter.unusedVariables false
set_option linter.unusedSimpArgs false

theorem lens2_ (a b : Int) (w : World) : Calls Try.prog 67 #[.slice (some ⟨w.heap.size, 0, none⟩) 2 2] (w.alloc (.cells #[.int .i64 a, .int .i64 b] 3)) fun e w' => e = .returned (.bool (lenB a && lenB b)) ∧ w.alloc (.cells #[.int .i64 a, .int .i64 b] 3) = w' := by
  have h := lengths_any (some ⟨w.heap.size, 0, none⟩) 2 2 (fun i => if i = 0 then a else b) (w.alloc (.cells #[.int .i64 a, .int .i64 b] 3)) (by omega) (IRow.new w 2 (fun i => if i = 0 then a else b)).reads
  have e : lensB (fun i => if i = 0 then a else b) 2 = (lenB a && lenB b) := by simp [lensB]
  rw [e] at h
  exact h
theorem lens3_ (a b c : Int) (w : World) : Calls Try.prog 67 #[.slice (some ⟨w.heap.size, 0, none⟩) 3 3] (w.alloc (.cells #[.int .i64 a, .int .i64 b, .int .i64 c] 3)) fun e w' => e = .returned (.bool (lenB a && lenB b && lenB c)) ∧ w.alloc (.cells #[.int .i64 a, .int .i64 b, .int .i64 c] 3) = w' := by
  have h := lengths_any (some ⟨w.heap.size, 0, none⟩) 3 3 (fun i => if i = 0 then a else if i = 1 then b else c) (w.alloc (.cells #[.int .i64 a, .int .i64 b, .int .i64 c] 3)) (by omega) (IRow.new w 3 (fun i => if i = 0 then a else if i = 1 then b else c)).reads
  have e : lensB (fun i => if i = 0 then a else if i = 1 then b else c) 3 = (lenB a && lenB b && lenB c) := by simp [lensB]
  rw [e] at h
  exact h
theorem okB_eq (y : Fx) : okB y = ((lenB y.ba && lenB y.mn && lenB y.mx) && inB y.gr 0 1000 && inB y.sh 0 1000) := rfl
theorem okA_not {x : Nat → Fx} {n k : Nat} (hk : k < n) (h : okB (x k) = false) : okA x 0 n = false := by
  cases hl : okA x 0 n with
  | false => rfl
  | true =>
    have := (okB_iff (x k)).2 ((okA_iff x n 0).1 hl k (Nat.zero_le _) (by omega))
    rw [h] at this
    exact Bool.noConfusion this
end Go.Proofs.Ytdoenkngmgclmaa
/- Toward package box's Resolve: the checks, limited, weight, the natural sizes; rows of elements that come in. -/
namespace Go.Proofs.Ytdoenkngmgclmaa
open Go.RowKit Go.Sort
set_option linter.unusedVariables false
set_option linter.unusedSimpArgs false

set_option maxHeartbeats 8000000 in
set_option maxRecDepth 100000 in
theorem check_ok (av gap : Int) (p : Option Addr) (n c : Nat) (x : Nat → Fx) (w : World) (hr : SRow w p n 5 (fxC x)) (hn : n ≤ 100) :
    Calls Try.prog 57 #[.int .i64 av, .int .i64 gap, .slice p n c] w fun e w' => e = .returned (.int .i64 (if (lenB av && lenB gap && okA x 0 n) = true then 0 else 1)) ∧ Below w.heap.size w w' := by
  have HR := hide hr
  have L := fun W => hide (lens2_ av gap W)
  have hz : ¬ (100 : Int) < (n : Int) := by omega
  have hB : Hid (Below w.heap.size w (w.alloc (.cells #[.int .i64 av, .int .i64 gap] 3))) := (Below.refl _ _).alloc (Nat.le_refl _) _
  clear hr
  generalize (lenB av && lenB gap) = v1 at *
  cases v1
  · simp only [Bool.false_and, Bool.false_eq_true, if_false]
    go_enter Try.func57, Try.ntmps57
    go_wp2_with fail
    refine (L _).out.mono ?_
    rintro e w' ⟨rfl, rfl⟩
    go_wp2_with fail
    go_ret
    exact ⟨rfl, hB.out⟩
  simp only [Bool.true_and]
  obtain ⟨er, her⟩ : ∃ er : Int, er = (if okA x 0 n = true then 0 else 1) := ⟨_, rfl⟩
  rw [← her]
  replace her := hide her
  go_enter Try.func57, Try.ntmps57
  go_wp2_with fail
  refine (L _).out.mono ?_
  rintro e w' ⟨rfl, rfl⟩
  clear L
  go_wp2_with fail
  generalize w.alloc (.cells #[.int .i64 av, .int .i64 gap] 3) = w1 at *
  go_loopg [19] (n + 1) (fun g1 vk wr => ∃ k : Nat, vk = .int .i64 (k : Int) ∧ k ≤ n ∧ n - k < g1 ∧ Hid (Below w.heap.size w wr) ∧ Hid (∀ i, i < k → okF (x i)))
  case atStart => exact ⟨0, by go_num, by omega, by omega, hB.out, fun i hi => absurd hi (Nat.not_lt_zero _)⟩
  case round =>
    clear hB
    obtain ⟨wo, rfl⟩ : ∃ wo : World, wo = wr := ⟨_, rfl⟩
    obtain ⟨k, rfl, hk, hg, B, OK⟩ := hrel
    by_cases hlt : k < n
    · have hltz : (k : Int) < (n : Int) := by omega
      obtain ⟨b, off, rfl, hb, hc⟩ := (HR.out.below B.out) (by omega)
      have M1 : ∀ o, Hid (Calls Try.prog 67 #[.slice (some ⟨wo.heap.size + 1, 0, none⟩) 3 3] ((wo.alloc o).alloc (.cells #[.int .i64 (x k).ba, .int .i64 (x k).mn, .int .i64 (x k).mx] 3)) fun e w' => e = .returned (.bool (lenB (x k).ba && lenB (x k).mn && lenB (x k).mx)) ∧ (wo.alloc o).alloc (.cells #[.int .i64 (x k).ba, .int .i64 (x k).mn, .int .i64 (x k).mx] 3) = w') := fun o => by
        have := lens3_ (x k).ba (x k).mn (x k).mx (wo.alloc o)
        rw [World.size_alloc] at this
        exact hide this
      have M2 := fun W => hide (bwithin_any (x k).gr 0 1000 W)
      have M3 := fun W => hide (bwithin_any (x k).sh 0 1000 W)
      have c0 : wo.cell? ⟨b, off + k * 5, none⟩ = some (.int .i64 (x k).ba) := hc k hlt 0 (by decide)
      have c1 : wo.cell? ⟨b, off + k * 5 + 1, none⟩ = some (.int .i64 (x k).mn) := hc k hlt 1 (by decide)
      have c2 : wo.cell? ⟨b, off + k * 5 + 2, none⟩ = some (.int .i64 (x k).mx) := hc k hlt 2 (by decide)
      have c3 : wo.cell? ⟨b, off + k * 5 + 3, none⟩ = some (.int .i64 (x k).gr) := hc k hlt 3 (by decide)
      have c4 : wo.cell? ⟨b, off + k * 5 + 4, none⟩ = some (.int .i64 (x k).sh) := hc k hlt 4 (by decide)
      have B' : Hid (∀ o o', Below w.heap.size w ((wo.alloc o).alloc o')) := fun o o' => (B.out.alloc B.out.size o).alloc (Nat.le_trans B.out.size (by rw [World.size_alloc]; omega)) o'
      have NO : Hid (okB (x k) = false → er = 1) := fun h => by rw [her.out, okA_not hlt h]; rfl
      have YES : Hid (okB (x k) = true → ∀ i, i < k + 1 → okF (x i)) := fun h i hi => by
        rcases Nat.lt_or_ge i k with h1 | h1
        · exact OK.out i h1
        · rw [show i = k by omega]; exact (okB_iff _).1 h
      rw [okB_eq] at NO YES
      clear hc hb B OK
      generalize (lenB (x k).ba && lenB (x k).mn && lenB (x k).mx) = v1 at *
      generalize inB (x k).gr 0 1000 = v2 at *
      generalize inB (x k).sh 0 1000 = v3 at *
      generalize (x k).ba = x0 at *
      generalize (x k).mn = x1 at *
      generalize (x k).mx = x2 at *
      generalize (x k).gr = x3 at *
      generalize (x k).sh = x4 at *
      cases v1
      · have e1 := NO.out rfl
        go_wp2_with fail
        refine (M1 _).out.mono ?_
        rintro e w' ⟨rfl, rfl⟩
        go_wp2_with fail
        go_ret
        exact ⟨ret_int e1.symm, B'.out _ _⟩
      cases v2
      · have e1 := NO.out rfl
        go_wp2_with fail
        refine (M1 _).out.mono ?_
        rintro e w' ⟨rfl, rfl⟩
        go_wp2_with fail
        refine (M2 _).out.mono ?_
        rintro e w' ⟨rfl, rfl⟩
        go_wp2_with fail
        go_ret
        exact ⟨ret_int e1.symm, B'.out _ _⟩
      cases v3
      · have e1 := NO.out rfl
        go_wp2_with fail
        refine (M1 _).out.mono ?_
        rintro e w' ⟨rfl, rfl⟩
        go_wp2_with fail
        refine (M2 _).out.mono ?_
        rintro e w' ⟨rfl, rfl⟩
        go_wp2_with fail
        refine (M3 _).out.mono ?_
        rintro e w' ⟨rfl, rfl⟩
        go_wp2_with fail
        go_ret
        exact ⟨ret_int e1.symm, B'.out _ _⟩
      have YY := hide (YES.out rfl)
      clear YES NO
      go_wp2_with fail
      refine (M1 _).out.mono ?_
      rintro e w' ⟨rfl, rfl⟩
      go_wp2_with fail
      refine (M2 _).out.mono ?_
      rintro e w' ⟨rfl, rfl⟩
      go_wp2_with fail
      refine (M3 _).out.mono ?_
      rintro e w' ⟨rfl, rfl⟩
      go_wp2_with fail
      go_roundg (n - k)
      case measure => omega
      case rel => exact ⟨k + 1, by go_num, by omega, by omega, B'.out _ _, YY⟩
    · have hltz : ¬ (k : Int) < (n : Int) := by omega
      obtain rfl : n = k := by omega
      have e1 : er = 0 := by rw [her.out, (okA_iff x n 0).2 fun i _ hi => OK.out i (by omega)]; rfl
      go_wp2_with fail
      go_ret
      exact ⟨by first | exact ret_int e1.symm | exact ret_int rfl, B.out⟩
theorem check_any_ (av gap : Int) (p : Option Addr) (n c : Nat) (x : Nat → Fx) (w : World) (hr : SRow w p n 5 (fxC x)) (hn : n ≤ 100000) :
    Calls Try.prog 57 #[.int .i64 av, .int .i64 gap, .slice p n c] w fun e w' => e = .returned (.int .i64 (erR av gap x n)) ∧ Below w.heap.size w w' := by
  by_cases h : 100 < n
  · have e : erR av gap x n = 2 := by unfold erR; rw [if_pos h]
    rw [e]
    have hz : (100 : Int) < (n : Int) := by omega
    clear hr e
    go_enter Try.func57, Try.ntmps57
    go_wp2_with fail
    go_ret
    exact ⟨rfl, Below.refl _ _⟩
  · have e : erR av gap x n = (if (lenB av && lenB gap && okA x 0 n) = true then 0 else 1) := by unfold erR; rw [if_neg h]
    rw [e]
    exact check_ok av gap p n c x w hr (by omega)

end Go.Proofs.Ytdoenkngmgclmaa
/- Toward package box's Resolve: the checks, limited, weight, the natural sizes; rows of elements that come in. -/
namespace Go.Proofs.Ytdoenkngmgclmaa
open Go.RowKit Go.Sort
set_option linter.unusedVariables false
set_option linter.unusedSimpArgs false

abbrev fxU (x : Fx) : Value := .agg #[.int .i64 x.ba, .int .i64 x.mn, .int .i64 x.mx, .int .i64 x.gr, .int .i64 x.sh]
theorem limited_any (y : Fx) (v : Int) (w : World) :
    Calls Try.prog 73 #[fxU y, .int .i64 v] w fun e w' => e = .returned (.int .i64 (clF y v)) ∧ Grew w w' := by
  have C := fun W => hide (Clamp_any v y.mn y.mx W)
  have G := hide (fun o => (Grew.refl w).alloc o)
  unfold clF
  obtain ⟨x0, x1, x2, x3, x4⟩ := y
  dsimp only at *
  go_enter Try.func73, Try.ntmps73
  go_wp2_with fail
  refine (C _).out.mono ?_
  rintro e w' ⟨rfl, rfl⟩
  go_wp2_with fail
  go_ret
  exact ⟨rfl, G.out _⟩
end Go.Proofs.Ytdoenkngmgclmaa
/- Toward package box's Resolve: the checks, limited, weight, the natural sizes; rows of elements that come in. -/
namespace Go.Proofs.Ytdoenkngmgclmaa
open Go.RowKit Go.Sort
set_option linter.unusedVariables false
set_option linter.unusedSimpArgs false

theorem weight_any (y : Nat → Fx) (i : Nat) (g : Bool) (d : Nat) (w : World) (hd : w.cell? ⟨d, 2, none⟩ = some (.int .i64 (sgF g))) (hy : okF (y i)) :
    Calls Try.prog 71 #[.pointer (some ⟨d, 0, none⟩), fxU (y i)] w fun e w' => e = .returned (.int .i64 (wtF g y i)) ∧ Grew w w' := by
  have G := hide (fun o => (Grew.refl w).alloc o)
  have hb := wt_bd (g := g) hy
  have hlt := lt_of_cell hd
  unfold wtF at hb ⊢
  generalize y i = z at *
  obtain ⟨x0, x1, x2, x3, x4⟩ := z
  dsimp only at *
  have hne : ¬ d = w.heap.size := by omega
  have hd0 : ∀ o, (w.alloc o).cell? ⟨d, 2, none⟩ = some (.int .i64 (sgF g)) := fun o => (((Grew.refl w).alloc o).1.cell (p := ⟨d, 2, none⟩) hlt).trans hd
  clear hlt hy hd
  cases g with
  | true =>
    have hd1 : ∀ o, (w.alloc o).cell? ⟨d, 2, none⟩ = some (.int .i64 1) := hd0
    clear hd0 hb
    go_enter Try.func71, Try.ntmps71
    go_wp2_with fail
    go_ret
    exact ⟨by simp, G.out _⟩
  | false =>
    have hd1 : ∀ o, (w.alloc o).cell? ⟨d, 2, none⟩ = some (.int .i64 (-1)) := hd0
    simp only [Bool.false_eq_true, if_false] at hb ⊢
    have hw : IntKind.i64.wrap (x4 * x0) = x4 * x0 := wr (by omega) (by omega)
    clear hd0 hb
    go_enter Try.func71, Try.ntmps71
    go_wp2_with fail
    go_ret
    exact ⟨by simp, G.out _⟩
end Go.Proofs.Ytdoenkngmgclmaa
/- Toward package box's Resolve: the natural sizes. -/
namespace Go.Proofs.Ytdoenkngmgclmaa
open Go.RowKit Go.Sort
set_option linter.unusedVariables false
set_option linter.unusedSimpArgs false

set_option maxHeartbeats 8000000 in
set_option maxRecDepth 100000 in
theorem natural_any (p : Option Addr) (n c : Nat) (x : Nat → Fx) (w : World) (hr : SRow w p n 5 (fxC x)) (hn : n ≤ 100) :
    Calls Try.prog 69 #[.slice p n c] w fun e w' => ∃ b, e = .returned (.slice (some ⟨b, 0, none⟩) n n) ∧ w.heap.size ≤ b ∧ IRow w' b n (natF x) ∧ Below w.heap.size w w' := by
  have HR := hide hr
  have hmk : ∀ W : World, (Instr.makeSlice 22 (.int .i64 (n : Int)) (.int .i64 (n : Int))).run Try.prog W = .ok (.slice (some ⟨W.heap.size, 0, none⟩) n n) (W.alloc (.cells (ints n (fun _ => 0)) 3)) := make_ints n (by omega)
  have B1 : Hid (Below w.heap.size w (w.alloc (.cells (ints n fun _ => 0) 3))) := (Below.refl _ _).alloc (Nat.le_refl _) _
  have R1 : Hid (IRow (w.alloc (.cells (ints n fun _ => 0) 3)) w.heap.size n (fun j => if j < 0 then natF x j else 0)) := (IRow.new w n (fun _ => 0)).congr fun j hj => by simp
  clear hr
  go_enter Try.func69, Try.ntmps69
  go_wp2_with fail
  clear hmk
  obtain ⟨rb, hrb⟩ : ∃ q, q = w.heap.size := ⟨_, rfl⟩
  rw [← hrb] at R1 ⊢
  have NE : Hid (w.heap.size ≤ rb) := Nat.le_of_eq hrb.symm
  clear hrb
  generalize w.alloc (.cells (ints n fun _ => 0) 3) = w1 at *
  go_loopg [11] (n + 1) (fun g1 vk wr => ∃ k : Nat, vk = .int .i64 (k : Int) ∧ k ≤ n ∧ n - k < g1 ∧ Hid (Below w.heap.size w wr) ∧ Hid (IRow wr rb n (fun j => if j < k then natF x j else 0)))
  case atStart => exact ⟨0, by go_num, by omega, by omega, B1, R1⟩
  case round =>
    clear B1 R1
    obtain ⟨wo, rfl⟩ : ∃ wo : World, wo = wr := ⟨_, rfl⟩
    obtain ⟨k, rfl, hk, hg, B, R⟩ := hrel
    by_cases hlt : k < n
    · have hltz : (k : Int) < (n : Int) := by omega
      obtain ⟨b, off, rfl, hb, hc⟩ := (HR.out.below B.out) (by omega)
      have c0 : wo.cell? ⟨b, off + k * 5, none⟩ = some (.int .i64 (x k).ba) := hc k hlt 0 (by decide)
      have c1 : wo.cell? ⟨b, off + k * 5 + 1, none⟩ = some (.int .i64 (x k).mn) := hc k hlt 1 (by decide)
      have c2 : wo.cell? ⟨b, off + k * 5 + 2, none⟩ = some (.int .i64 (x k).mx) := hc k hlt 2 (by decide)
      have c3 : wo.cell? ⟨b, off + k * 5 + 3, none⟩ = some (.int .i64 (x k).gr) := hc k hlt 3 (by decide)
      have c4 : wo.cell? ⟨b, off + k * 5 + 4, none⟩ = some (.int .i64 (x k).sh) := hc k hlt 4 (by decide)
      have LM := fun W => hide (limited_any (x k) (x k).ba W)
      have en : clF (x k) (x k).ba = natF x k := rfl
      rw [en] at LM
      have BA : Hid (∀ o w', Grew (wo.alloc o) w' → Below w.heap.size w w') := fun o w' h => (B.out.alloc B.out.size o).trans (h.1.mono (by rw [World.size_alloc]; have := B.out.size; omega))
      have RA : Hid (∀ o w', Grew (wo.alloc o) w' → IRow w' rb n (fun j => if j < k then natF x j else 0)) := fun o w' h => (R.out.alloc o).below h.1 (R.out.alloc o).lt
      have STEP : Hid (∀ W, IRow W rb n (fun j => if j < k then natF x j else 0) → IRow (W.setCell ⟨rb, k, none⟩ (.int .i64 (natF x k))) rb n (fun j => if j < k + 1 then natF x j else 0)) := fun W h => (h.set_ k _).congr fun j hj => by
        by_cases h1 : j = k
        · subst h1; simp
        · by_cases h2 : j < k
          · simp [h1, h2, show j < k + 1 by omega]
          · simp [h1, h2, show ¬ j < k + 1 by omega]
      clear hc hb B R en
      generalize natF x k = nk at *
      obtain ⟨y, hy⟩ : ∃ y, y = x k := ⟨_, rfl⟩
      rw [← hy] at c0 c1 c2 c3 c4 LM
      clear hy
      obtain ⟨x0, x1, x2, x3, x4⟩ := y
      dsimp only at *
      go_wp2_with fail
      refine (LM _).out.mono ?_
      rintro e w5 ⟨rfl, hG⟩
      have B5 := hide (BA.out _ _ hG)
      have R5 := hide (RA.out _ _ hG)
      clear BA RA LM hG c0 c1 c2 c3 c4
      have fz := R5.out.frozen k
      have cz := R5.out.cell hlt
      simp only [Nat.lt_irrefl, if_false] at cz
      have R6 := hide (STEP.out _ R5.out)
      have B6 : Hid (Below w.heap.size w (w5.setCell ⟨rb, k, none⟩ (.int .i64 nk))) := B5.out.setCell NE.out _
      clear STEP R5 B5
      go_wp2_with fail
      go_roundg (n - k)
      case measure => omega
      case rel => exact ⟨k + 1, by go_num, by omega, by omega, B6, R6⟩
    · have hltz : ¬ (k : Int) < (n : Int) := by omega
      obtain rfl : n = k := by omega
      go_wp2_with fail
      go_ret
      exact ⟨rb, rfl, NE.out, R.out.congr fun j hj => by simp [hj], B.out⟩
end Go.Proofs.Ytdoenkngmgclmaa
/- Toward package box's Resolve: the division in its box, whether it is open, the targets. -/
namespace Go.Proofs.Ytdoenkngmgclmaa
open Go.RowKit Go.Sort
set_option linter.unusedVariables false
set_option linter.unusedSimpArgs false

/-- The division that lies at d: its space, the elements that came in, its direction, its two rows. -/
structure Dv (w0 w : World) (d wb sb : Nat) (p : Option Addr) (n c : Nat) (g : Bool) (sp : Int) (x : Nat → Fx) (W S : Nat → Int) : Prop where
  blk : Blk w d 85 [.int .i64 sp, .slice p n c, .int .i64 (sgF g), .slice (some ⟨wb, 0, none⟩) n n, .slice (some ⟨sb, 0, none⟩) n n]
  rwt : IRow w wb n W
  rsz : IRow w sb n S
  el : SRow w0 p n 5 (fxC x)
  below : Below w0.heap.size w0 w
  hd : w0.heap.size ≤ d
  hw : w0.heap.size ≤ wb
  hs : w0.heap.size ≤ sb
  dw : d ≠ wb
  ds : d ≠ sb
  ws : wb ≠ sb
section
variable {w0 w w' : World} {d wb sb : Nat} {p : Option Addr} {n c : Nat} {g : Bool} {sp : Int} {x : Nat → Fx} {W S : Nat → Int}
theorem Dv.grown (h : Dv w0 w d wb sb p n c g sp x W S) (hb : Below w.heap.size w w') : Dv w0 w' d wb sb p n c g sp x W S :=
  ⟨(hb.block d h.blk.lt).trans h.blk, h.rwt.below hb h.rwt.lt, h.rsz.below hb h.rsz.lt, h.el, h.below.trans (hb.mono h.below.size), h.hd, h.hw, h.hs, h.dw, h.ds, h.ws⟩
theorem Dv.drewN (h : Dv w0 w d wb sb p n c g sp x W S) (k : Nat) : Dv w0 (w.drewN k) d wb sb p n c g sp x W S :=
  ⟨h.blk, h.rwt, h.rsz, h.el, below_drewN h.below k, h.hd, h.hw, h.hs, h.dw, h.ds, h.ws⟩
theorem Dv.far (h : Dv w0 w d wb sb p n c g sp x W S) {b i : Nat} (v : Value) (h0 : w0.heap.size ≤ b) (h1 : d ≠ b) (h2 : wb ≠ b) (h3 : sb ≠ b) : Dv w0 (w.setCell ⟨b, i, none⟩ v) d wb sb p n c g sp x W S :=
  ⟨h.blk.other h1 v, h.rwt.far h2 v, h.rsz.far h3 v, h.el, h.below.setCell h0 v, h.hd, h.hw, h.hs, h.dw, h.ds, h.ws⟩
theorem Dv.lt (h : Dv w0 w d wb sb p n c g sp x W S) : d < w.heap.size ∧ wb < w.heap.size ∧ sb < w.heap.size := ⟨h.blk.lt, h.rwt.lt, h.rsz.lt⟩
theorem open_any (D : Dv w0 w d wb sb p n c g sp x W S) (hn : n ≤ 100) (hW : Good W n) :
    Calls Try.prog 60 #[.pointer (some ⟨d, 0, none⟩)] w fun e w' => e = .returned (.bool (decide (0 < sumF W n))) ∧ w = w' := by
  have SM := hide (bsum_any (some ⟨wb, 0, none⟩) n n W w (by omega) (fun k hk => by have := hW k hk; omega) D.rwt.reads)
  have c3 := D.blk.cell 3 rfl
  clear D hW
  by_cases h : 0 < sumF W n
  · go_enter Try.func60, Try.ntmps60
    go_wp2_with fail
    refine SM.out.mono ?_
    rintro e w' ⟨rfl, rfl⟩
    go_wp2_with fail
    go_ret
    exact ⟨ret_bool (by simp [h]), rfl⟩
  · go_enter Try.func60, Try.ntmps60
    go_wp2_with fail
    refine SM.out.mono ?_
    rintro e w' ⟨rfl, rfl⟩
    go_wp2_with fail
    go_ret
    exact ⟨ret_bool (by simp [h]), rfl⟩
theorem sg_mul (g : Bool) (a : Int) : sgF g * a = if g then a else -a := by unfold sgF; cases g <;> simp
end
/-- What a store at the end of a region that draws its order leaves. -/
def st1 (A0 A1 : World → Prop) : List Value → World → Prop
  | [], W => A0 W
  | _ :: _, W => A1 W
set_option maxHeartbeats 8000000 in
set_option maxRecDepth 100000 in
theorem targets_any {w0 w : World} {d wb sb : Nat} {p : Option Addr} {n c : Nat} {g : Bool} {sp : Int} {x : Nat → Fx} {W S : Nat → Int}
    (D : Dv w0 w d wb sb p n c g sp x W S) (hn : n ≤ 100) (hW : Good W n) (hS : ∀ i, i < n → 0 ≤ S i ∧ S i ≤ 1048576) (hsp : -209715200 ≤ sp ∧ sp ≤ 1048576) :
    Calls Try.prog 72 #[.pointer (some ⟨d, 0, none⟩)] w fun e w' => ∃ b, e = .returned (.slice (some ⟨b, 0, none⟩) n n) ∧ w.heap.size ≤ b ∧ IRow w' b n (fun i => S i + sgF g * shr (max (sgF g * (sp - sumF S n)) 0) W n i) ∧ Below w.heap.size w w' := by
  have SM : ∀ W', Dv w0 W' d wb sb p n c g sp x W S → Hid (Calls Try.prog 70 #[.slice (some ⟨sb, 0, none⟩) n n] W' fun e w' => e = .returned (.int .i64 (sumF S n)) ∧ w' = W') := fun W' D' => hide ((bsum_any (some ⟨sb, 0, none⟩) n n S W' (by omega) (fun k hk => by have := hS k hk; omega) D'.rsz.reads).mono (by rintro e w' ⟨rfl, rfl⟩; exact ⟨rfl, rfl⟩))
  have SMq : ∀ j, Hid (Calls Try.prog 70 #[.slice (some ⟨sb, 0, none⟩) n n] (w.drewN j) fun e w' => e = .returned (.int .i64 (sumF S n)) ∧ w' = w.drewN j) := fun j => SM _ (D.drewN j)
  have sb1 := sumF_bound (f := S) (B := 1048576) n hS
  obtain ⟨s1, s2⟩ := sb1
  have s3 : sumF S n ≤ 104857600 := by omega
  clear s2
  obtain ⟨T, hT⟩ : ∃ T, T = max (sgF g * (sp - sumF S n)) 0 := ⟨_, rfl⟩
  have hT1 : 0 ≤ T ∧ T ≤ 1073741824 := by
    rw [hT, sg_mul]
    split <;> omega
  have SH := fun (W' : World) (D' : Dv w0 W' d wb sb p n c g sp x W S) => hide (share_ok T (some ⟨wb, 0, none⟩) n n W W' D'.rwt.reads ⟨hn, hT1.1, hT1.2, hW⟩)
  have PB : Hid (∀ P, Parts T W n P → ∀ i, i < n → (0 ≤ P i ∧ P i ≤ 1073741824) ∧ P i = shr T W n i) := fun P hP i hi => by
    have := hP.bounds hT1.1 hW hi
    exact ⟨by omega, shr_of hP hi⟩
  rw [← hT]
  have q1 : -1073741824 ≤ sgF g * (sp - sumF S n) ∧ sgF g * (sp - sumF S n) ≤ 1073741824 := by rw [sg_mul]; split <;> omega
  have wq1 : IntKind.i64.wrap (sp - sumF S n) = sp - sumF S n := wr (by omega) (by omega)
  have wq2 : IntKind.i64.wrap (sgF g * (sp - sumF S n)) = sgF g * (sp - sumF S n) := wr (by omega) (by omega)
  have HS := hide hS
  have HD := hide D
  have c0 := D.blk.cell 0 rfl
  have c2 := D.blk.cell 2 rfl
  have c3 := D.blk.cell 3 rfl
  have c4 := D.blk.cell 4 rfl
  have hsg : sgF g = 1 ∨ sgF g = -1 := by unfold sgF; cases g <;> simp
  have hmk : ∀ W : World, (Instr.makeSlice 22 (.int .i64 (n : Int)) (.int .i64 (n : Int))).run Try.prog W = .ok (.slice (some ⟨W.heap.size, 0, none⟩) n n) (W.alloc (.cells (ints n (fun _ => 0)) 3)) := make_ints n (by omega)
  clear D hW hS SM hT1
  obtain ⟨sg, hq⟩ : ∃ sg, sg = sgF g := ⟨_, rfl⟩
  rw [← hq] at hT hsg wq2 c2 q1 ⊢
  replace hT := hide hT
  have HSG : Hid (sgF g = sg) := hq.symm
  clear hq
  go_enter Try.func72, Try.ntmps72
  go_wp2_with fail
  go_quiet ((go_at_call 70; exact Calls.quiet_of_same (SMq _).out))
  have DQ := hide (HD.out.drewN nq)
  have BQ : Hid (Below w.heap.size w (w.drewN nq)) := below_drewN (Below.refl _ _) _
  clear c0 c2 c3 c4 SMq HD
  generalize w.drewN nq = w1 at *
  have c3 := DQ.out.blk.cell 3 rfl
  go_wp2_with fail
  rw [← hT.out]
  refine (SH w1 DQ.out).out.mono ?_
  rintro e w2 ⟨rfl, hB2, P, hP, hr⟩
  have D2 := hide (DQ.out.grown hB2)
  have B2 : Hid (Below w.heap.size w w2) := BQ.out.trans (hB2.mono BQ.out.size)
  have PR2 : Hid (IRow w2 w1.heap.size n P) := hr
  have PP := hide (PB.out P hP)
  have NP : Hid (w.heap.size ≤ w1.heap.size) := BQ.out.size
  clear hr hB2 DQ BQ SH PB hP c3
  have D3 : Hid (Dv w0 (w2.alloc (.cells (ints n fun _ => 0) 3)) d wb sb p n c g sp x W S) := D2.out.grown ((Below.refl _ _).alloc (Nat.le_refl _) _)
  have B3 : Hid (Below w.heap.size w (w2.alloc (.cells (ints n fun _ => 0) 3))) := B2.out.alloc B2.out.size _
  have P3 : Hid (IRow (w2.alloc (.cells (ints n fun _ => 0) 3)) w1.heap.size n P) := PR2.out.alloc _
  have R3 : Hid (IRow (w2.alloc (.cells (ints n fun _ => 0) 3)) w2.heap.size n (fun j => if j < 0 then S j + sg * shr T W n j else 0)) := (IRow.new w2 n (fun _ => 0)).congr fun j hj => by simp
  have NE : Hid (w1.heap.size ≠ w2.heap.size ∧ w.heap.size ≤ w2.heap.size ∧ w0.heap.size ≤ w2.heap.size ∧ d ≠ w2.heap.size ∧ wb ≠ w2.heap.size ∧ sb ≠ w2.heap.size) := ⟨Nat.ne_of_lt PR2.out.lt, B2.out.size, D2.out.below.size, Nat.ne_of_lt D2.out.lt.1, Nat.ne_of_lt D2.out.lt.2.1, Nat.ne_of_lt D2.out.lt.2.2⟩
  clear D2 B2 PR2
  go_wp2_with fail
  clear hmk
  generalize w2.alloc (.cells (ints n fun _ => 0) 3) = w3 at *
  generalize w1.heap.size = pb at *
  generalize w2.heap.size = tb at *
  go_loopg [39] (n + 1) (fun g1 vk wr => ∃ k : Nat, vk = .int .i64 (k : Int) ∧ k ≤ n ∧ n - k < g1 ∧ Hid (Below w.heap.size w wr) ∧ Hid (Dv w0 wr d wb sb p n c g sp x W S) ∧ Hid (IRow wr pb n P) ∧ Hid (IRow wr tb n (fun j => if j < k then S j + sg * shr T W n j else 0)))
  case atStart => exact ⟨0, by go_num, by omega, by omega, B3, D3, P3, R3⟩
  case round =>
    clear B3 D3 P3 R3
    obtain ⟨wo, rfl⟩ : ∃ wo : World, wo = wr := ⟨_, rfl⟩
    obtain ⟨k, rfl, hk, hg, B, DD, PR, R⟩ := hrel
    by_cases hlt : k < n
    · have hltz : (k : Int) < (n : Int) := by omega
      have cp := PR.out.cell hlt
      obtain ⟨⟨p1, p2⟩, p3⟩ := PP.out k hlt
      obtain ⟨o1, o2⟩ := HS.out k hlt
      have J0 : Hid (∀ W', (Below w.heap.size w W' ∧ Dv w0 W' d wb sb p n c g sp x W S ∧ IRow W' pb n P ∧ IRow W' tb n (fun j => if j < k then S j + sg * shr T W n j else 0)) → (W'.cell? ⟨d, 2, none⟩ = some (.int .i64 sg) ∧ W'.cell? ⟨d, 4, none⟩ = some (.slice (some ⟨sb, 0, none⟩) n n) ∧ W'.cell? ⟨sb, k, none⟩ = some (.int .i64 (S k)))) := fun W' h => ⟨HSG.out ▸ h.2.1.blk.cell 2 rfl, h.2.1.blk.cell 4 rfl, h.2.1.rsz.cell hlt⟩
      have ST : Hid (∀ W', (Below w.heap.size w W' ∧ Dv w0 W' d wb sb p n c g sp x W S ∧ IRow W' pb n P ∧ IRow W' tb n (fun j => if j < k then S j + sg * shr T W n j else 0)) → (W'.cell? ⟨tb, k, none⟩ = some (.int .i64 0) ∧ W'.frozen? ⟨tb, k, none⟩ = false) ∧ (Below w.heap.size w (W'.setCell ⟨tb, k, none⟩ (.int .i64 (S k + sg * P k))) ∧ Dv w0 (W'.setCell ⟨tb, k, none⟩ (.int .i64 (S k + sg * P k))) d wb sb p n c g sp x W S ∧ IRow (W'.setCell ⟨tb, k, none⟩ (.int .i64 (S k + sg * P k))) pb n P ∧ IRow (W'.setCell ⟨tb, k, none⟩ (.int .i64 (S k + sg * P k))) tb n (fun j => if j < k + 1 then S j + sg * shr T W n j else 0))) := fun W' ⟨s1, s2, s3, s4⟩ => by
        obtain ⟨n1, n2, n3, n4, n5, n6⟩ := NE.out
        refine ⟨⟨by have := s4.cell hlt; simpa using this, s4.frozen k⟩, s1.setCell n2 _, s2.far _ n3 n4 n5 n6, s3.far n1 _, (s4.set_ k _).congr fun j hj => ?_⟩
        by_cases h1 : j = k
        · subst h1; simp [p3]
        · by_cases h2 : j < k
          · simp [h1, h2, show j < k + 1 by omega]
          · simp [h1, h2, show ¬ j < k + 1 by omega]
      have PRE : Hid (Below w.heap.size w wo.drew ∧ Dv w0 wo.drew d wb sb p n c g sp x W S ∧ IRow wo.drew pb n P ∧ IRow wo.drew tb n (fun j => if j < k then S j + sg * shr T W n j else 0)) := ⟨B.out.drew, DD.out.drewN 1, PR.out, R.out⟩
      clear B DD PR R p3
      generalize P k = pk at *
      generalize S k = sk at *
      have wm : IntKind.i64.wrap (sg * pk) = sg * pk := by rcases hsg with h | h <;> rw [h, IntKind.wrap_i64] <;> omega
      have wa : IntKind.i64.wrap (sk + sg * pk) = sk + sg * pk := by rcases hsg with h | h <;> rw [h, IntKind.wrap_i64] <;> omega
      go_wp2_with fail
      refine MJ.wp_region_chain (fun W' => W'.cell? ⟨d, 2, none⟩ = some (.int .i64 sg) ∧ W'.cell? ⟨d, 4, none⟩ = some (.slice (some ⟨sb, 0, none⟩) n n) ∧ W'.cell? ⟨sb, k, none⟩ = some (.int .i64 sk)) [17] []
        (st1 (fun W' => Below w.heap.size w W' ∧ Dv w0 W' d wb sb p n c g sp x W S ∧ IRow W' pb n P ∧ IRow W' tb n (fun j => if j < k then S j + sg * shr T W n j else 0)) (fun W' => Below w.heap.size w W' ∧ Dv w0 W' d wb sb p n c g sp x W S ∧ IRow W' pb n P ∧ IRow W' tb n (fun j => if j < k + 1 then S j + sg * shr T W n j else 0)))
        (by kernel_rfl) (by kernel_rfl) (by simp) ?h0 ?hJ ?_
      case h0 => exact PRE.out
      case hJ =>
        rintro vals W' (hl | hl) hS'
        · obtain rfl : vals = [] := by simpa using hl
          exact J0.out W' hS'
        · exact absurd hl (by rw [show MJ.sinkL _ _ = true by kernel_rfl]; exact Bool.noConfusion)
      repeat (refine MJ.lex_calm rfl (by rfl) (fun K hK => ?_); apply Exists.intro; refine ⟨fun W' hW => ?_, ?_⟩; (dsimp only at hW; go_simp; exact rfl); go_simp; refine hK _ ?_; clear hK K)
      refine MJ.lex_chain 0 rfl (by kernel_rfl) rfl ?_ ?_
      · rintro vs W' hS'
        obtain ⟨⟨y1, y2⟩, y3⟩ := ST.out W' hS'
        have y3 := hide y3
        clear hS'
        simp [go_sem, evS, List.lookup, y1, y2]
        exact y3.out
      refine MJ.lex_nil ?_
      rintro vs w5 ⟨s1, s2, s3, s4⟩
      have B5 := hide s1
      have D5 := hide s2
      have P5 := hide s3
      have R5 := hide s4
      clear s1 s2 s3 s4 J0 ST PRE
      simp only [fillS, List.foldl_nil]
      go_wp2_with fail
      go_roundg (n - k)
      case measure => omega
      case rel => exact ⟨k + 1, by go_num, by omega, by omega, B5, D5, P5, R5⟩
    · have hltz : ¬ (k : Int) < (n : Int) := by omega
      obtain rfl : n = k := by omega
      go_wp2_with fail
      go_ret
      exact ⟨tb, rfl, NE.out.2.1, R.out.congr fun j hj => by simp [hj], B.out⟩
end Go.Proofs.Ytdoenkngmgclmaa
