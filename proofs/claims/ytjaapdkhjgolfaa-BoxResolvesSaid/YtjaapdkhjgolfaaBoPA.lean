/- Shares where the frozen elements stay in the list with the weight 0, and the rounds of the freezing over such a list; no premise on the program. -/
import Derived.Test.YtjaapdkhjgolfaaBoA
import Derived.Test.YtjaapdkhjgolfaaChecked
import Derived.Shelf.Bits.Mul64
import Derived.Test.YtjaapdkhjgolfaaBoSp
import Derived.Test.YtjaapdkhjgolfaaBoOf
import Derived.Test.YtjaapdkhjgolfaaMixJ
import Derived.Deep.Cut
import Derived.Deep.LoopGhost
import Derived.Deep.RegionLaw
import Derived.Test.YtjaapdkhjgolfaaBoB
import Derived.Test.YtjaapdkhjgolfaaBoAl
namespace Go.Proofs.Ytjaapdkhjgolfaa
open Go.RowKit Go.Sort
set_option linter.unusedVariables false
set_option linter.unusedSimpArgs false

theorem rk_lt_iff {z : Nat → Bool} {y i : Nat} (hy : z y = false) (hi : z i = false) : rk z y < rk z i ↔ y < i := by
  constructor
  · intro h
    rcases Nat.lt_or_ge y i with l | l
    · exact l
    · have := rk_mono z (i := i) (n := y) l; omega
  · intro h; exact rk_lt h hy
section
variable {T : Int} {z : Nat → Bool} {a : Nat → Int} {n : Nat}
/-- The weights, 0 for those that are frozen. -/
def zro (z : Nat → Bool) (a : Nat → Int) (i : Nat) : Int := if z i then 0 else a i
theorem zro_yes {i : Nat} (h : z i = true) : zro z a i = 0 := by unfold zro; rw [h]; rfl
theorem zro_no {i : Nat} (h : z i = false) : zro z a i = a i := by unfold zro; rw [h]; rfl
theorem shr_zero (hg : Good (zro z a) n) {i : Nat} (hi : i < n) :
    shr T (zro z a) n i = if z i then 0 else shr T (pack z a n) (rk z n) (rk z i) := by
  have hgp : Good (pack z a n) (rk z n) := fun k hk => pack_all (p := fun v => 0 ≤ v ∧ v ≤ 2147483648) (fun j hj hz => by have := hg j hj; rw [zro_no hz] at this; exact this) hk
  have hs : sumF (pack z a n) (rk z n) = sumF (zro z a) n := sum_pack n
  have hP := shr_parts (T := T) hg
  have hQ := shr_parts (T := T) hgp
  rcases hP with ⟨e0, hP⟩ | ⟨hp, h, g, O, hP⟩
  · rw [hP i hi]
    cases hz : z i with
    | true => rfl
    | false =>
      rcases hQ with ⟨_, hQ⟩ | ⟨hq, _⟩
      · exact (hQ (rk z i) (rk_lt hi hz)).symm
      · omega
  · rw [hP i hi]
    rcases hQ with ⟨eq0, _⟩ | ⟨hq, h', g', O', hQ⟩
    · omega
    · rw [hs] at O' hQ
      have er : ∀ y, y < n → z y = false → remF T (sumF (zro z a) n) (zro z a) y = remF T (sumF (zro z a) n) (pack z a n) (rk z y) := fun y hy hz => by
        unfold remF; rw [zro_no hz, pack_at hy hz]
      have er0 : ∀ y, z y = true → remF T (sumF (zro z a) n) (zro z a) y = 0 := fun y hz => by
        unfold remF; rw [zro_yes hz, Int.mul_zero, Int.zero_emod]
      have eq : ∀ y, y < n → z y = false → quoF T (sumF (zro z a) n) (zro z a) y = quoF T (sumF (zro z a) n) (pack z a n) (rk z y) := fun y hy hz => by
        unfold quoF; rw [zro_no hz, pack_at hy hz]
      have eq0 : ∀ y, z y = true → quoF T (sumF (zro z a) n) (zro z a) y = 0 := fun y hz => by
        unfold quoF; rw [zro_yes hz, Int.mul_zero, Int.zero_ediv]
      have esq : sumF (quoF T (sumF (zro z a) n) (zro z a)) n = sumF (quoF T (sumF (zro z a) n) (pack z a n)) (rk z n) := by
        rw [← sum_ranks (z := z) (q := quoF T (sumF (zro z a) n) (pack z a n)) n]
        refine sum_congr n fun y hy => ?_
        cases hz : z y with
        | true => rw [eq0 y hz]; rfl
        | false => rw [eq y hy hz]; rfl
      generalize hS : sumF (zro z a) n = S at *
      cases hz : z i with
      | true =>
        unfold partF
        rw [eq0 i hz]
        have : ¬ (g i : Int) < T - sumF (quoF T S (zro z a)) n := fun hl => by
          have := rem_pos hS.symm hp O hi hl
          rw [er0 i hz] at this
          omega
        rw [if_neg this]
        rfl
      | false =>
        simp only [Bool.false_eq_true, if_false]
        rw [hQ (rk z i) (rk_lt hi hz)]
        unfold partF
        rw [eq i hi hz, esq]
        congr 1
        have hr0 := (rem_bound T S (zro z a) i hp).1
        rcases Int.lt_or_eq_of_le hr0 with hr | hr
        · have : (g i : Int) = (g' (rk z i) : Int) := by
            rw [O.count hi, O'.count (rk_lt hi hz), ← sum_ranks (z := z) n]
            refine sum_congr n fun y hy => ?_
            have e2 := er i hi hz
            cases hy2 : z y with
            | true =>
              have e1 := er0 y hy2
              have nb : ¬ before (remF T S (zro z a)) y i := fun hb => by unfold before at hb; omega
              simp only [if_neg nb, if_true]
            | false =>
              have e1 := er y hy hy2
              simp only [Bool.false_eq_true, if_false]
              have hb : before (remF T S (zro z a)) y i ↔ before (remF T S (pack z a n)) (rk z y) (rk z i) := by
                unfold before
                rw [← e1, ← e2, rk_lt_iff hy2 hz]
              by_cases hbb : before (remF T S (zro z a)) y i
              · rw [if_pos hbb, if_pos (hb.1 hbb)]
              · rw [if_neg hbb, if_neg (fun hh => hbb (hb.2 hh))]
          rw [this]
        · have n1 : ¬ (g i : Int) < T - sumF (quoF T S (pack z a n)) (rk z n) := fun hl => by
            have := rem_pos hS.symm hp O hi (by rw [esq]; exact hl)
            omega
          have n2 : ¬ (g' (rk z i) : Int) < T - sumF (quoF T S (pack z a n)) (rk z n) := fun hl => by
            have := rem_pos hs.symm hp O' (rk_lt hi hz) hl
            rw [← er i hi hz] at this
            omega
          rw [if_neg n1, if_neg n2]
end

/-! ### A round over the whole list -/
/-- What the list of sizes holds: the basis where an element is not frozen. -/
def szW (x : Nat → Fx) (s : Nat → Int) (z : Nat → Bool) (i : Nat) : Int := if z i then s i else (x i).ba
noncomputable def tgW (g : Bool) (sp : Int) (x : Nat → Fx) (n : Nat) (s : Nat → Int) (z : Nat → Bool) (i : Nat) : Int := if z i then s i else tgF g sp x n s z i
noncomputable def exW (g : Bool) (sp : Int) (x : Nat → Fx) (n : Nat) (s : Nat → Int) (z : Nat → Bool) (i : Nat) : Int := clF (x i) (tgW g sp x n s z i) - tgW g sp x n s z i
def samB (a b : Int) : Bool := (decide (0 < a) && decide (0 < b)) || (decide (a < 0) && decide (b < 0))
theorem cl_twice (y : Fx) (u : Int) : clF y (clF y u) = clF y u := by
  unfold clF clampS
  (repeat' split) <;> omega
section
variable {g : Bool} {sp : Int} {x : Nat → Fx} {n : Nat} {s : Nat → Int} {z : Nat → Bool}
theorem zro_good (hx : ∀ i, i < n → okF (x i)) : Good (zro z (wtF g x)) n := fun k hk => by
  have := wt_bd (g := g) (hx k hk)
  unfold zro
  split <;> omega
theorem tgW_eq (hx : ∀ i, i < n → okF (x i)) {i : Nat} (hi : i < n) :
    szW x s z i + sgF g * shr (max (sgF g * (sp - sumF (szW x s z) n)) 0) (zro z (wtF g x)) n i = tgW g sp x n s z i := by
  have e : max (sgF g * (sp - sumF (szW x s z) n)) 0 = totF g sp x n s z := by
    unfold totF freF
    rw [Int.max_comm]
    rfl
  rw [e, shr_zero (zro_good hx) hi]
  unfold szW tgW tgF
  cases hz : z i with
  | true => simp
  | false => simp
theorem exW_frozen {i : Nat} (hs : ∃ u, s i = clF (x i) u) (hz : z i = true) : exW g sp x n s z i = 0 := by
  obtain ⟨u, hu⟩ := hs
  unfold exW tgW
  rw [hz]
  simp only [if_true]
  rw [hu, cl_twice]
  omega
theorem exW_sum (hs : ∀ i, ∃ u, s i = clF (x i) u) : sumF (exW g sp x n s z) n = vioF g sp x n s z := by
  unfold vioF
  refine sum_congr n fun i hi => ?_
  cases hz : z i with
  | true => rw [exW_frozen (hs i) hz]; rfl
  | false =>
    unfold exW tgW
    rw [hz]
    rfl
theorem sam_hit {v c t : Int} (hv : v ≠ 0) : samB (c - t) v = hitB v c t := by
  unfold samB hitB
  have e1 : decide (v = 0) = false := decide_eq_false hv
  have e2 : decide (0 < c - t) = decide (t < c) := by by_cases h : t < c <;> simp [h] <;> omega
  have e3 : decide (c - t < 0) = decide (c < t) := by by_cases h : c < t <;> simp [h] <;> omega
  rw [e1, e2, e3, Bool.false_or, Bool.and_comm (decide (t < c)), Bool.and_comm (decide (c < t))]
/-- Whether a round sets the element i. -/
noncomputable def setB (g : Bool) (sp : Int) (x : Nat → Fx) (n : Nat) (s : Nat → Int) (z : Nat → Bool) (i : Nat) : Bool :=
  decide (vioF g sp x n s z = 0) || samB (exW g sp x n s z i) (vioF g sp x n s z)
theorem set_weight {i : Nat} (hs : ∃ u, s i = clF (x i) u) : (if setB g sp x n s z i then 0 else zro z (wtF g x) i) = zro (fun i => (stepF g sp x n s z i).2) (wtF g x) i := by
  unfold zro stepF
  cases hz : z i with
  | true => simp [hz]
  | false =>
    have e : setB g sp x n s z i = hitB (vioF g sp x n s z) (clF (x i) (tgF g sp x n s z i)) (tgF g sp x n s z i) := by
      unfold setB
      by_cases hv : vioF g sp x n s z = 0
      · simp [hv, hitB]
      · rw [decide_eq_false hv, Bool.false_or]
        have : exW g sp x n s z i = clF (x i) (tgF g sp x n s z i) - tgF g sp x n s z i := by unfold exW tgW; rw [hz]; rfl
        rw [this, sam_hit hv]
    rw [e]
    simp only [Bool.false_eq_true, if_false]
    split <;> simp_all
theorem set_size {i : Nat} (hs : ∃ u, s i = clF (x i) u) : (if setB g sp x n s z i then tgW g sp x n s z i + exW g sp x n s z i else szW x s z i) = szW x (fun i => (stepF g sp x n s z i).1) (fun i => (stepF g sp x n s z i).2) i := by
  unfold szW stepF
  cases hz : z i with
  | true =>
    have e0 := exW_frozen (g := g) (sp := sp) (n := n) hs hz
    have e1 : tgW g sp x n s z i = s i := by unfold tgW; rw [hz]; rfl
    rw [e0, e1]
    simp [hz]
  | false =>
    have e : setB g sp x n s z i = hitB (vioF g sp x n s z) (clF (x i) (tgF g sp x n s z i)) (tgF g sp x n s z i) := by
      unfold setB
      by_cases hv : vioF g sp x n s z = 0
      · simp [hv, hitB]
      · rw [decide_eq_false hv, Bool.false_or]
        have : exW g sp x n s z i = clF (x i) (tgF g sp x n s z i) - tgF g sp x n s z i := by unfold exW tgW; rw [hz]; rfl
        rw [this, sam_hit hv]
    have e2 : tgW g sp x n s z i + exW g sp x n s z i = clF (x i) (tgF g sp x n s z i) := by
      unfold exW tgW; rw [hz]; simp only [Bool.false_eq_true, if_false]; omega
    rw [e, e2]
    simp only [Bool.false_eq_true, if_false]
    split <;> simp_all
end
section
variable {g : Bool} {sp : Int} {x : Nat → Fx} {n : Nat}
/-- The weights are positive where an element is not frozen. -/
theorem it_wt (hx : ∀ i, i < n → okF (x i)) (k : Nat) {i : Nat} (hi : i < n) (hz : (itS g sp x n k).2 i = false) : 0 < wtF g x i := by
  have h0 : fr0 g x i = false := by
    cases hf : fr0 g x i with
    | false => rfl
    | true => rw [(it_first (sp := sp) (n := n) hf k).2] at hz; exact absurd hz (by simp)
  have hw := wt_bd (g := g) (hx i hi)
  unfold fr0 at h0
  simp only [Bool.or_eq_false_iff, decide_eq_false_iff_not] at h0
  have := h0.1.1
  omega
theorem it_open (hx : ∀ i, i < n → okF (x i)) (k : Nat) : 0 < sumF (zro (itS g sp x n k).2 (wtF g x)) n ↔ 0 < rk (itS g sp x n k).2 n := by
  have hg := zro_good (g := g) (z := (itS g sp x n k).2) hx
  constructor
  · intro h
    rcases Nat.eq_zero_or_pos (rk (itS g sp x n k).2 n) with h0 | h0
    · have : sumF (zro (itS g sp x n k).2 (wtF g x)) n = sumF (fun _ => 0) n := sum_congr n fun i hi => zro_yes (rk_zero h0 hi)
      rw [sum_zero] at this
      omega
    · exact h0
  · intro h
    have hex : ∃ i, i < n ∧ (itS g sp x n k).2 i = false := by
      refine Classical.byContradiction fun hn => ?_
      have := rk_all (z := (itS g sp x n k).2) (n := n) fun i hi => by
        cases hz : (itS g sp x n k).2 i with
        | true => rfl
        | false => exact absurd ⟨i, hi, hz⟩ hn
      omega
    obtain ⟨i, hi, hz⟩ := hex
    have a := le_sum n (fun j hj => (hg j hj).1) i hi
    have b := it_wt hx k hi hz
    rw [zro_no hz] at a
    omega
/-- The start: an element is not frozen where its weight is positive and its natural size lies in the direction. -/
theorem start_z {i : Nat} (hx : okF (x i)) : fr0 g x i = !(decide (0 < wtF g x i) && decide (0 ≤ sgF g * (natF x i - (x i).ba))) := by
  have hw := wt_bd (g := g) hx
  unfold fr0
  cases g with
  | true =>
    have e1 : decide (0 < wtF true x i) = !decide (wtF true x i = 0) := by by_cases h : wtF true x i = 0 <;> simp [h] <;> omega
    have e2 : decide (0 ≤ sgF true * (natF x i - (x i).ba)) = !decide (natF x i < (x i).ba) := by
      unfold sgF
      by_cases h : natF x i < (x i).ba <;> simp [h] <;> omega
    rw [e1, e2]
    cases decide (wtF true x i = 0) <;> cases decide (natF x i < (x i).ba) <;> simp
  | false =>
    have e1 : decide (0 < wtF false x i) = !decide (wtF false x i = 0) := by by_cases h : wtF false x i = 0 <;> simp [h] <;> omega
    have e2 : decide (0 ≤ sgF false * (natF x i - (x i).ba)) = !decide ((x i).ba < natF x i) := by
      unfold sgF
      by_cases h : (x i).ba < natF x i <;> simp [h] <;> omega
    rw [e1, e2]
    cases decide (wtF false x i = 0) <;> cases decide ((x i).ba < natF x i) <;> simp
end
end Go.Proofs.Ytjaapdkhjgolfaa
/- bits.Mul, as this program bears it: the shelf's contract laid at this program's numbers. -/
namespace Go.Proofs.Ytjaapdkhjgolfaa
open Go.Shelf
def mulRen : Ren := ⟨fun | 212 => 56 | 263 => 60 | 264 => 61 | n => n, fun | 46 => 72 | 51 => 76 | 53 => 79 | 146 => 77 | 148 => 80 | n => n, fun n => n⟩
theorem mulLaid : Lays.n212 Try.prog mulRen := {
  mixed := by kernel_rfl
  f212 := Try.func56.trans (by kernel_rfl)
  f263 := Try.func60.trans (by kernel_rfl)
  f264 := Try.func61.trans (by kernel_rfl)
  t46 := Try.underlying72
  a46 := Try.isAgg72
  z46 := Try.sizeOf72
  v46 := Try.zeroValue72
  t51 := Try.underlying76
  a51 := Try.isAgg76
  z51 := Try.sizeOf76
  v51 := Try.zeroValue76
  t53 := Try.underlying79
  a53 := Try.isAgg79
  z53 := Try.sizeOf79
  v53 := Try.zeroValue79
  t146 := Try.underlying77
  a146 := Try.isAgg77
  z146 := Try.sizeOf77
  v146 := Try.zeroValue77
  t148 := Try.underlying80
  a148 := Try.isAgg80
  z148 := Try.sizeOf80
  v148 := Try.zeroValue80 }
theorem mul_any (x y : Nat) (hx : x < 18446744073709551616) (hy : y < 18446744073709551616) (w : World) :
    Calls Try.prog 56 #[.int .u64 x, .int .u64 y] w fun e w' => e = .returned (.tuple #[.int .u64 ((x * y / 18446744073709551616 : Nat) : Int), .int .u64 ((x * y % 18446744073709551616 : Nat) : Int)]) ∧ w' = w :=
  Any.bits_Mul mulLaid x y hx hy w
end Go.Proofs.Ytjaapdkhjgolfaa
/- slices.Repeat of one integer, and package box's repeat: a row of as many copies; at most 100000. -/
namespace Go.Proofs.Ytjaapdkhjgolfaa
open Go.RowKit Go.Sort
set_option linter.unusedVariables false
set_option linter.unusedSimpArgs false

theorem splice_ints {n o m : Nat} {f P : Nat → Int} (h : o + m ≤ n) : (splice (ints n f).toList o (vals m P)).toArray = ints n (fun j => if o ≤ j ∧ j < o + m then P (j - o) else f j) := by
  have hl : (ints n f).toList.length = n := by simp
  have hc : ∀ i, i < n → (ints n f).toList[i]? = some (.int .i64 (f i)) := fun i hi => by
    have := ints_get f hi
    simpa using this
  have ht : ((ints n f).toList.take o).length = o := by rw [List.length_take, hl]; omega
  apply Array.ext_getElem?
  intro j
  rw [List.getElem?_toArray]
  unfold splice
  by_cases hj : j < n
  · rw [ints_get _ hj]
    rcases Nat.lt_or_ge j o with h1 | h1
    · rw [List.getElem?_append_left (by rw [ht]; omega), List.getElem?_take, if_pos h1, hc j hj, if_neg (by omega)]
    · rw [List.getElem?_append_right (by rw [ht]; omega), ht]
      rcases Nat.lt_or_ge j (o + m) with h2 | h2
      · rw [List.getElem?_append_left (by rw [vals_len]; omega), vals_get P (by omega), if_pos ⟨h1, h2⟩]
      · rw [List.getElem?_append_right (by rw [vals_len]; omega), vals_len, List.getElem?_drop, show o + m + (j - o - m) = j by omega, hc j hj, if_neg (by omega)]
  · rw [Array.getElem?_eq_none (by simp; omega), List.getElem?_eq_none (by
      rw [List.length_append, ht, List.length_append, vals_len, List.length_drop, hl]; omega)]
theorem irow_splice {W : World} {b n o m : Nat} {f g P : Nat → Int} (hw : W.heap[b]? = some (.cells (splice (ints n f).toList o (vals m P)).toArray 3 (0, 0))) (h : o + m ≤ n)
    (hg : ∀ j, j < n → (if o ≤ j ∧ j < o + m then P (j - o) else f j) = g j) : IRow W b n g := by
  rw [splice_ints h] at hw
  exact IRow.congr (f := fun j => if o ≤ j ∧ j < o + m then P (j - o) else f j) hw hg
theorem vals_cells {w : World} {b o m : Nat} {P : Nat → Int} (h : ∀ j, j < m → w.cell? ⟨b, o + j, none⟩ = some (.int .i64 (P j))) : ∀ j v, (vals m P)[j]? = some v → w.cell? ((Addr.mk b o none).add j) = some v := fun j v hv => by
  have hj : j < m := by
    rcases Nat.lt_or_ge j m with h | h
    · exact h
    · rw [List.getElem?_eq_none (by rw [vals_len]; exact h)] at hv; cases hv
  rw [vals_get P hj] at hv
  cases hv
  have : (Addr.mk b o none).add j = ⟨b, o + j, none⟩ := by unfold Addr.add; by_cases h0 : j = 0 <;> simp [h0]
  rw [this]
  exact h j hj
theorem vals_one {m : Nat} {P : Nat → Int} : ∀ v ∈ vals m P, v.oneCell' = true := fun v hv => by obtain ⟨i, hi, rfl⟩ := List.mem_map.1 hv; rfl

/-- What stands behind the copy, the sum, the assignment. -/
def cpSt (A0 A1 : World → Prop) (m s : Int) : List Value → World → Prop
  | [], W => A0 W
  | [v], W => v = .int .i64 m ∧ A1 W
  | [_, u], W => u = .int .i64 s ∧ A1 W
  | _ :: _ :: z :: _, W => z = .int .i64 s ∧ A1 W
theorem does_copy {P : Program} {w : World} {o : Oper} {ev : Operand → Value} {R : Value → World → Prop} (d s : Operand) (dT sT : TypeId)
    (ho : o.op = .call { callee := .builtin .copy, args := #[d, s], argTypes := #[dT, sT] }) (elem : TypeId) (hu : P.underlying dT = some (.slice elem)) (hsz : (P.info? elem).map (·.size) = some 1)
    (g off dLen dCap : Nat) (ad : Addr) (sLen sCap : Nat) (hd : ev d = .slice (some ⟨g, off, none⟩) dLen dCap) (hs : ev s = .slice (some ad) sLen sCap)
    (cur : List Value) (t : TypeId) (hg : w.heap[g]? = some (.cells cur.toArray t (0, 0))) (cs : List Value) (hn : cs.length = Nat.min sLen dLen)
    (hsrc : ∀ j v, cs[j]? = some v → w.cell? (ad.add j) = some v) (hfit : off + cs.length ≤ cur.length) (h1 : ∀ v ∈ cs, v.oneCell' = true)
    (h : ∀ w', w'.heap[g]? = some (.cells (splice cur off cs).toArray t (0, 0)) → Below g w w' → R (goInt cs.length) w') : does P o ev w R := by
  have hrun := run_copy_row (P := P) w dT sT o.type elem g off dLen dCap ad sLen sCap cur.toArray t cs hu hsz hg hn hsrc (by simpa using hfit) h1
  unfold does execOp
  simp only [ho, resolve, invoke, builtin, Sem.run_bind, Sem.run_pure, Result.andThen_ok, List.map_toArray, List.map_cons, List.map_nil, hd, hs, hrun, doesUpon]
  refine h _ (show _ = _ by simpa [splice] using setRow_heap w g _ _ t _ hg) (below_setRow (Below.refl _ _) (Nat.le_refl _) _)

set_option maxHeartbeats 8000000 in
set_option maxRecDepth 100000 in
theorem Repeat_zero (x : Int) (xb : Nat) (w : World) :
    Calls Try.prog 51 #[.slice (some ⟨xb, 0, none⟩) 1 1, .int .i64 0] w fun e w' => e = .returned (.slice (some ⟨w.heap.size, 0, none⟩) 0 0) ∧ IRow w' w.heap.size 0 (fun _ => x) ∧ Below w.heap.size w w' := by
  have M : ∀ W : World, Hid (Calls Try.prog 56 #[.int .u64 1, .int .u64 0] W fun e w' => e = .returned (.tuple #[.int .u64 0, .int .u64 0]) ∧ w' = W) := fun W => hide (mul_any 1 0 (by omega) (by omega) W)
  have hmk : ∀ W : World, (Instr.makeSlice 23 (.int .i64 0) (.int .i64 0)).run Try.prog W = .ok (.slice (some ⟨W.heap.size, 0, none⟩) 0 0) (W.alloc (.cells (ints 0 (fun _ => 0)) 3)) := make_ints 0 (by omega)
  have B1 : Hid (Below w.heap.size w (w.alloc (.cells (ints 0 fun _ => 0) 3))) := (Below.refl _ _).alloc (Nat.le_refl _) _
  have hinf : (Try.prog.info? 3).map (·.size) = some 1 := by kernel_rfl
  go_enter Try.func51, Try.ntmps51
  go_wp2_with fail
  refine (M _).out.mono ?_
  rintro e w' ⟨rfl, rfl⟩
  go_wp2_with (refine wpList_copy_nothing rfl _ _ 23 23 rfl 3 Try.underlying23 hinf (some ⟨w'.heap.size, 0, none⟩) (some ⟨xb, 0, none⟩) 0 0 1 1 rfl rfl rfl ?_)
  refine wp_loop_rounds 1 ?_
  rw [rounds_succ]
  go_wp2
  go_ret
  exact ⟨rfl, IRow.congr (IRow.new w' 0 (fun _ => 0)) (fun i hi => absurd hi (Nat.not_lt_zero _)), B1.out⟩
set_option maxHeartbeats 8000000 in
set_option maxRecDepth 100000 in
theorem Repeat_pos (x : Int) (xb n : Nat) (w : World) (hp : 0 < n) (hn : n ≤ 100000) (hx : w.cell? ⟨xb, 0, none⟩ = some (.int .i64 x)) :
    Calls Try.prog 51 #[.slice (some ⟨xb, 0, none⟩) 1 1, .int .i64 (n : Int)] w fun e w' => e = .returned (.slice (some ⟨w.heap.size, 0, none⟩) n n) ∧ IRow w' w.heap.size n (fun _ => x) ∧ Below w.heap.size w w' := by
  have hxb : xb < w.heap.size := lt_of_cell hx
  have M : ∀ W : World, Hid (Calls Try.prog 56 #[.int .u64 1, .int .u64 (n : Int)] W fun e w' => e = .returned (.tuple #[.int .u64 0, .int .u64 (n : Int)]) ∧ w' = W) := fun W => by
    have := mul_any 1 n (by omega) (by omega) W
    rw [show 1 * n / 18446744073709551616 = 0 by omega, show 1 * n % 18446744073709551616 = n by omega] at this
    exact hide this
  have hmk : ∀ W : World, (Instr.makeSlice 23 (.int .i64 (n : Int)) (.int .i64 (n : Int))).run Try.prog W = .ok (.slice (some ⟨W.heap.size, 0, none⟩) n n) (W.alloc (.cells (ints n (fun _ => 0)) 3)) := make_ints n (by omega)
  have hu1 : IntKind.u64.wrap (n : Int) = n := by rw [IntKind.wrap_u64]; omega
  have hi1 : IntKind.i64.wrap (n : Int) = n := wr (by omega) (by omega)
  have hn0 : ¬ (n : Int) < 0 := by omega
  have hm9 : ¬ (9223372036854775807 : Int) < (n : Int) := by omega
  have B1 : Hid (Below w.heap.size w (w.alloc (.cells (ints n fun _ => 0) 3))) := (Below.refl _ _).alloc (Nat.le_refl _) _
  have R1 : Hid (IRow (w.alloc (.cells (ints n fun _ => 0) 3)) w.heap.size n (fun _ => 0)) := IRow.new w n _
  have c1 : Hid ((w.alloc (.cells (ints n fun _ => 0) 3)).cell? ⟨xb, 0, none⟩ = some (.int .i64 x)) := (B1.out.cell (p := ⟨xb, 0, none⟩) hxb).trans hx
  have hinf : (Try.prog.info? 3).map (·.size) = some 1 := by kernel_rfl
  clear hx hxb
  have hg1 : Hid ((w.alloc (.cells (ints n fun _ => 0) 3)).heap[w.heap.size]? = some (.cells (ints n (fun _ => 0)).toList.toArray 3 (0, 0))) := by
    show _ = _
    rw [Array.toArray_toList]; exact R1.out
  have HP := hide hp
  clear R1
  go_enter Try.func51, Try.ntmps51
  go_wp2_with fail
  refine (M _).out.mono ?_
  rintro e w' ⟨rfl, rfl⟩
  clear M hu1
  go_wp2_with (refine wpList_copy_splice rfl _ _ 23 23 rfl 3 Try.underlying23 hinf (some ⟨w'.heap.size, 0, none⟩) (some ⟨xb, 0, none⟩) n n 1 1 rfl rfl w'.heap.size 0 (ints n (fun _ => 0)).toList 3 hg1.out (vals 1 (fun _ => x)) ?k1 ?k2 ?k3 ?k4 w'.heap.size w' B1.out (Nat.le_refl _) ?_)
  case k1 => rw [vals_len]; have := HP.out; simp [Nat.min_def]; omega
  case k2 =>
    have hk := vals_cells (w := w'.alloc (.cells (ints n fun _ => 0) 3)) (b := xb) (o := 0) (m := 1) (P := fun _ => x) (fun j hj => by rw [show 0 + j = 0 by omega]; exact c1.out)
    have hk2 : ∀ j v, (vals 1 (fun _ => x))[j]? = some v → (w'.alloc (.cells (ints n fun _ => 0) 3)).cell? ⟨xb, j, none⟩ = some v := fun j v hv => by
      have := hk j v hv
      rw [addr_add0] at this
      exact this
    first
      | exact hk2
      | exact fun _ => hk2
      | exact fun _ => ⟨rfl, _, rfl, hk⟩
  case k3 => rw [vals_len]; have := HP.out; simp; omega
  case k4 => exact vals_one
  intro w9 H9 BB
  have R9 : Hid (IRow w9 w'.heap.size n (fun j => if j < 1 then x else 0)) := irow_splice H9.out (by have := HP.out; omega) (fun j hj => by
    by_cases h : j < 1
    · rw [if_pos ⟨by omega, by omega⟩, if_pos h]
    · rw [if_neg (by omega), if_neg h])
  have B9 := hide BB
  clear H9 BB B1 c1 hg1 hmk
  have hp1 : 1 ≤ n := HP.out
  obtain ⟨nb, hnb⟩ : ∃ q, q = w'.heap.size := ⟨_, rfl⟩
  rw [← hnb] at R9
  have HNB := hide hnb
  clear hnb
  go_wp2_with fail
  rw [← HNB.out]
  go_loopg [8] (n + 1) (fun g v wr => ∃ k : Nat, v = .int .i64 (k : Int) ∧ 1 ≤ k ∧ k ≤ n ∧ n - k < g ∧ Hid (Below w'.heap.size w' wr) ∧ Hid (IRow wr nb n (fun j => if j < k then x else 0)))
  case atStart => exact ⟨1, by go_num, by omega, by omega, by omega, B9, R9⟩
  case round =>
    clear R9 B9
    obtain ⟨wo, rfl⟩ : ∃ wo : World, wo = wr := ⟨_, rfl⟩
    obtain ⟨k, rfl, hk1, hk, hg, B, R⟩ := hrel
    by_cases hlt : k < n
    · have hltz : (k : Int) < (n : Int) := by omega
      obtain ⟨m, hm⟩ : ∃ m, m = min k (n - k) := ⟨_, rfl⟩
      have m1 : 1 ≤ m ∧ m ≤ k ∧ m ≤ n - k := by omega
      obtain ⟨m1, m2, m3⟩ := m1
      have HM := hide hm
      have hgr : Hid (wo.heap[nb]? = some (.cells (ints n (fun j => if j < k then x else 0)).toList.toArray 3 (0, 0))) := by
        show _ = _
        rw [Array.toArray_toList]; exact R.out
      have hsrc : Hid (∀ j, j < m → wo.cell? ⟨nb, 0 + j, none⟩ = some (.int .i64 x)) := fun j hj => by
        have := R.out.cell (i := j) (by omega)
        rw [if_pos (by omega)] at this
        rw [Nat.zero_add]; exact this
      have NX : Hid (∀ W : World, W.heap[nb]? = some (.cells (splice (ints n (fun j => if j < k then x else 0)).toList k (vals m (fun _ => x))).toArray 3 (0, 0)) → IRow W nb n (fun j => if j < k + m then x else 0)) := fun W hW => irow_splice hW (by omega) (fun j hj => by
        by_cases h : j < k
        · rw [if_neg (by omega), if_pos h, if_pos (by omega)]
        · by_cases h2 : j < k + m
          · rw [if_pos ⟨by omega, h2⟩, if_pos h2]
          · rw [if_neg (by omega), if_neg h, if_neg h2])
      have hnbl : w'.heap.size ≤ nb := by rw [HNB.out]; exact Nat.le_refl _
      clear hm R
      have hnk : ¬ n = k := by omega
      have wk : IntKind.i64.wrap ((k : Int) + (m : Int)) = ((k + m : Nat) : Int) := by rw [IntKind.wrap_i64]; omega
      go_wp2_with fail
      refine MJ.wp_region_chain (fun _ => True) [7, 8, 9] [(45, 7), (46, 8), (8, 9)] (cpSt (fun W => Below w'.heap.size w' W ∧ W.heap[nb]? = some (.cells (ints n (fun j => if j < k then x else 0)).toList.toArray 3 (0, 0)) ∧ ∀ j, j < m → W.cell? ⟨nb, 0 + j, none⟩ = some (.int .i64 x)) (fun W => Below w'.heap.size w' W ∧ IRow W nb n (fun j => if j < k + m then x else 0)) (m : Int) ((k + m : Nat) : Int)) (by kernel_rfl) (by kernel_rfl) (by simp) ?h0 ?hJ ?_
      case h0 => exact ⟨B.out.trans (((Grew.refl wo).drew).1.mono B.out.size), hgr.out, hsrc.out⟩
      case hJ => exact fun _ _ _ _ => trivial
      repeat (refine MJ.lex_calm rfl (by rfl) (fun K hK => ?_); apply Exists.intro; refine ⟨fun W hW => ?_, ?_⟩; (go_simp; exact rfl); go_simp; refine hK _ ?_; clear hK K)
      refine MJ.lex_chain 0 rfl (by kernel_rfl) rfl ?_ ?_
      · rintro vs W ⟨s1, s2, s3⟩
        refine does_copy (.tmp 41) (.tmp 44) 23 23 rfl 3 Try.underlying23 hinf nb k (n - k) (n - k) ⟨nb, 0, none⟩ k n rfl rfl (ints n (fun j => if j < k then x else 0)).toList 3 s2 (vals m (fun _ => x)) ?k1 ?k2 ?k3 vals_one ?_
        case k1 => rw [vals_len]; exact HM.out
        case k2 => exact vals_cells s3
        case k3 => rw [vals_len]; simp; omega
        · intro w4 H4 hb4
          rw [vals_len]
          exact ⟨rfl, s1.trans ((hb4.mono hnbl).mono (Nat.le_refl _)), NX.out _ H4⟩
      refine MJ.lex_chain 1 rfl (by kernel_rfl) rfl ?_ ?_
      · rintro vs W ⟨e, s⟩
        replace e : vs 7 = .int .i64 (m : Int) := e
        have s' := hide s
        clear s
        simp [go_sem, evS, List.lookup, e]
        exact ⟨congrArg (Value.int .i64) (by rw [wk]; omega), s'.out⟩
      refine MJ.lex_chain 2 rfl (by kernel_rfl) rfl ?_ ?_
      · rintro vs W ⟨e, s⟩
        replace e : vs 8 = .int .i64 ((k + m : Nat) : Int) := e
        have s' := hide s
        clear s
        simp [go_sem, evS, List.lookup, e]
        exact ⟨congrArg (Value.int .i64) (by omega), s'.out⟩
      refine MJ.lex_nil ?_
      rintro vs w5 ⟨e, s1, s2⟩
      replace e : vs 9 = .int .i64 ((k + m : Nat) : Int) := e
      have B5 := hide s1
      have R5 := hide s2
      clear s1 s2
      simp only [fillS, List.foldl_cons, List.foldl_nil, e]
      go_wp2_with fail
      go_roundg (n - k)
      case measure => omega
      case rel => exact ⟨k + m, by go_num, by omega, by omega, by omega, B5, R5⟩
    · have hltz : ¬ (k : Int) < (n : Int) := by omega
      obtain rfl : n = k := by omega
      go_wp2
      go_ret
      rw [HNB.out] at R ⊢
      exact ⟨rfl, R.out.congr fun j hj => by simp [hj], B.out⟩
theorem repeat_any (x : Int) (n : Nat) (w : World) (hn : n ≤ 100000) :
    Calls Try.prog 46 #[.int .i64 x, .int .i64 (n : Int)] w fun e w' => ∃ b, e = .returned (.slice (some ⟨b, 0, none⟩) n n) ∧ w.heap.size ≤ b ∧ IRow w' b n (fun _ => x) ∧ Below w.heap.size w w' := by
  have K : Hid (Calls Try.prog 51 #[.slice (some ⟨w.heap.size, 0, none⟩) 1 1, .int .i64 (n : Int)] (w.alloc (.cells #[.int .i64 x] 3)) fun e w' => ∃ b, e = .returned (.slice (some ⟨b, 0, none⟩) n n) ∧ w.heap.size ≤ b ∧ IRow w' b n (fun _ => x) ∧ Below w.heap.size w w') := by
    have B1 : Below w.heap.size w (w.alloc (.cells #[.int .i64 x] 3)) := (Below.refl _ _).alloc (Nat.le_refl _) _
    have h1 : (w.alloc (.cells #[.int .i64 x] 3)).heap.size = w.heap.size + 1 := World.size_alloc _ _
    rcases Nat.eq_zero_or_pos n with rfl | hp
    · refine hide ((Repeat_zero x w.heap.size _).mono ?_)
      rintro e w' ⟨rfl, hr, hb⟩
      exact ⟨_, rfl, by omega, hr, B1.trans (hb.mono (by omega))⟩
    · refine hide ((Repeat_pos x w.heap.size n _ hp hn ?_).mono ?_)
      · exact (IRow.new w 1 (fun _ => x)).cell (i := 0) (by omega)
      · rintro e w' ⟨rfl, hr, hb⟩
        exact ⟨_, rfl, by omega, hr, B1.trans (hb.mono (by omega))⟩
  go_enter Try.func46, Try.ntmps46
  go_wp2_with fail
  refine K.out.mono ?_
  rintro e w' ⟨b, rfl, hb, hr, hB⟩
  have hr := hide hr
  have hB := hide hB
  go_wp2_with fail
  go_ret
  exact ⟨b, rfl, hb, hr.out, hB.out⟩
end Go.Proofs.Ytjaapdkhjgolfaa
/- What the small functions of package box return: within, gapSum, place, start, sameSign, limited, weight; and sumOf and lengths over slices that read as integers. -/
namespace Go.Proofs.Ytjaapdkhjgolfaa
open Go.RowKit Go.Sort
set_option linter.unusedVariables false
set_option linter.unusedSimpArgs false

theorem below_drewN {B : Nat} {a w : World} (h : Below B a w) (n : Nat) : Below B a (w.drewN n) := ⟨h.os, h.tape, h.output, h.size, h.block⟩
def inB (x lo hi : Int) : Bool := decide (lo ≤ x ∧ x ≤ hi)
theorem bwithin_any (x lo hi : Int) (w : World) :
    Calls Try.prog 33 #[.int .i64 x, .int .i64 lo, .int .i64 hi] w fun e w' => e = .returned (.bool (inB x lo hi)) ∧ w = w' := by
  unfold inB
  by_cases h1 : lo ≤ x
  · by_cases h2 : x ≤ hi
    · rw [decide_eq_true ⟨h1, h2⟩]
      go_enter Try.func33, Try.ntmps33
      go_wp2
      go_ret
      exact ⟨rfl, rfl⟩
    · rw [decide_eq_false (fun h => h2 h.2)]
      go_enter Try.func33, Try.ntmps33
      go_wp2
      go_ret
      exact ⟨rfl, rfl⟩
  · rw [decide_eq_false (fun h => h1 h.1)]
    go_enter Try.func33, Try.ntmps33
    go_wp2
    go_ret
    exact ⟨rfl, rfl⟩
def gsF (gap : Int) (n : Nat) : Int := gap * max ((n : Int) - 1) 0
theorem gs_spc (av gap : Int) (n : Nat) : av - gsF gap n = spcF av gap n := by
  unfold gsF spcF
  by_cases h : n = 0
  · rw [if_pos h]; subst h; rw [show max (((0 : Nat) : Int) - 1) 0 = 0 by omega, Int.mul_zero, Int.sub_zero]
  · rw [if_neg h, show max ((n : Int) - 1) 0 = (n : Int) - 1 by omega]
theorem gs_bd {gap : Int} {n : Nat} (hg : 0 ≤ gap ∧ gap ≤ 1048576) (hn : n ≤ 100000) : 0 ≤ gsF gap n ∧ gsF gap n ≤ 1048576 * n := by
  unfold gsF
  have a : 0 ≤ max ((n : Int) - 1) 0 ∧ max ((n : Int) - 1) 0 ≤ n := by omega
  obtain ⟨a1, a2⟩ := a
  generalize max ((n : Int) - 1) 0 = m at *
  exact ⟨Int.mul_nonneg hg.1 a1, Int.mul_le_mul hg.2 a2 a1 (by omega)⟩
theorem gapSum_any (gap : Int) (n : Nat) (w : World) (hg : 0 ≤ gap ∧ gap ≤ 1048576) (hn : n ≤ 100000) :
    Calls Try.prog 28 #[.int .i64 gap, .int .i64 (n : Int)] w fun e w' => e = .returned (.int .i64 (gsF gap n)) ∧ w = w' := by
  have b := gs_bd hg hn
  have e0 : IntKind.i64.wrap (gap * max ((n : Int) - 1) 0) = gap * max ((n : Int) - 1) 0 := wr (by unfold gsF at b; omega) (by unfold gsF at b; omega)
  unfold gsF
  clear b
  rcases (show n = 0 ∨ 1 ≤ n by omega) with h | h
  · subst h
    clear e0 hg hn
    have e1 : max (-1 : Int) 0 = 0 := by omega
    go_enter Try.func28, Try.ntmps28
    go_wp2
    go_ret
    exact ⟨ret_int (by simp [e1]), rfl⟩
  · have e1 : max ((n : Int) - 1) 0 = (n : Int) - 1 := by omega
    rw [e1] at e0 ⊢
    go_enter Try.func28, Try.ntmps28
    go_wp2
    go_ret
    exact ⟨by first | rfl | simp_all, rfl⟩
def plF (at_ av ex : Int) (r : Bool) : Int := if r then av - ex - at_ else at_
theorem place_any (at_ av ex : Int) (r : Bool) (w : World) (h1 : -4611686018427387904 ≤ at_ ∧ at_ ≤ 2305843009213693952) (h2 : 0 ≤ av ∧ av ≤ 1048576) (h3 : 0 ≤ ex ∧ ex ≤ 1048576) :
    Calls Try.prog 38 #[.int .i64 at_, .int .i64 av, .int .i64 ex, .bool r] w fun e w' => e = .returned (.int .i64 (plF at_ av ex r)) ∧ w = w' := by
  unfold plF
  cases r
  all_goals
    go_enter Try.func38, Try.ntmps38
    go_wp2
    go_ret
    exact ⟨rfl, rfl⟩
theorem start_any (al fr : Int) (w : World) (h : -1152921504606846976 ≤ fr ∧ fr ≤ 1152921504606846976) :
    Calls Try.prog 36 #[.int .i64 al, .int .i64 fr] w fun e w' => e = .returned (.int .i64 (if al = 1 then fr else if al = 2 then flr fr 2 else 0)) ∧ Drawn w w' := by
  have F := fun W => hide (Floor_in fr 2 W ⟨by omega, by omega, by omega⟩)
  clear h
  rcases (show al = 1 ∨ al = 2 ∨ (¬ al = 1 ∧ ¬ al = 2) by omega) with rfl | rfl | ⟨h1, h2⟩
  · go_enter Try.func36, Try.ntmps36
    go_wp2_with fail
    go_ret
    exact ⟨by simp, Drawn.refl _⟩
  · go_enter Try.func36, Try.ntmps36
    go_wp2_with fail
    refine (F _).out.mono ?_
    rintro e w' ⟨rfl, hD⟩
    go_wp2_with fail
    go_ret
    exact ⟨by simp, hD⟩
  · rw [if_neg h1, if_neg h2]
    have d1 : (al == 1) = false := by simpa using h1
    have d2 : (al == 2) = false := by simpa using h2
    go_enter Try.func36, Try.ntmps36
    go_wp2_with fail
    go_ret
    exact ⟨rfl, Drawn.refl _⟩
theorem sameSign_any (a b : Int) (w : World) :
    Calls Try.prog 44 #[.int .i64 a, .int .i64 b] w fun e w' => e = .returned (.bool (samB a b)) ∧ w = w' := by
  unfold samB
  rcases Int.lt_trichotomy a 0 with ha | rfl | ha <;> rcases Int.lt_trichotomy b 0 with hb | rfl | hb
  all_goals
    go_enter Try.func44, Try.ntmps44
    go_wp2
    go_ret
    exact ⟨ret_bool (by simp <;> omega), rfl⟩
set_option maxHeartbeats 1000000 in
theorem bsum_any (p : Option Addr) (n c : Nat) (f : Nat → Int) (w : World) (hn : n ≤ 1048576) (hf : ∀ k, k < n → -4398046511104 ≤ f k ∧ f k ≤ 4398046511104) (hr : Reads w p n f) :
    Calls Try.prog 35 #[.slice p n c] w fun e w' => e = .returned (.int .i64 (sumF f n)) ∧ w = w' := by
  rcases Nat.eq_zero_or_pos n with rfl | hp
  · clear hr hf
    go_enter Try.func35, Try.ntmps35
    go_wp2
    refine wp_loop_rounds 1 ?_
    rw [rounds_succ]
    go_wp2
    go_ret
    exact ⟨rfl, rfl⟩
  · obtain ⟨b, off, rfl, hc⟩ := hr hp
    have HC := hide hc
    have HF := hide hf
    have hb : ∀ k, k ≤ n → -(k : Int) * 4398046511104 ≤ sumF f k ∧ sumF f k ≤ k * 4398046511104 := by
      intro k
      induction k with
      | zero => intro _; simp [sumF]
      | succ k ih =>
        intro hk
        have := ih (by omega)
        have := hf k (by omega)
        simp only [sumF]
        omega
    have HB := hide hb
    clear hr hc hf hb
    go_enter Try.func35, Try.ntmps35
    go_wp2
    go_loop [3, 8] (fun s i => ∃ k : Nat, k ≤ n ∧ i = .int .i64 k ∧ s = .int .i64 (sumF f k)) (fun _ i => n - (intOf i).toNat)
    case atStart => exact ⟨0, Nat.zero_le _, rfl, rfl⟩
    case round =>
      obtain ⟨k, hk, rfl, rfl⟩ := hrel
      by_cases hlt : k < n
      · have hltz : (k : Int) < (n : Int) := by omega
        have ck := HC.out k hlt
        have fk := HF.out k hlt
        have bk := HB.out k hk
        have E : Hid (sumF f (k + 1) = sumF f k + f k) := rfl
        obtain ⟨fk1, fk2⟩ := fk
        obtain ⟨bk1, bk2⟩ := bk
        go_wp2
        go_round
        case rel => exact ⟨k + 1, by omega, by go_num, by rw [E.out]⟩
        case measure => simp [intOf]; omega
      · have hltz : ¬ (k : Int) < (n : Int) := by omega
        obtain rfl : n = k := by omega
        go_wp2
        go_ret
        exact ⟨rfl, rfl⟩
/-- All of the first numbers are lengths. -/
def lensB (f : Nat → Int) : Nat → Bool
  | 0 => true
  | n + 1 => lensB f n && lenB (f n)
theorem lensB_iff (f : Nat → Int) : ∀ n, lensB f n = true ↔ ∀ i, i < n → 0 ≤ f i ∧ f i ≤ 1048576
  | 0 => ⟨fun _ i h => absurd h (Nat.not_lt_zero _), fun _ => rfl⟩
  | n + 1 => by
    rw [lensB, Bool.and_eq_true, lensB_iff f n]
    have hl : lenB (f n) = true ↔ 0 ≤ f n ∧ f n ≤ 1048576 := by simp [lenB]
    rw [hl]
    constructor
    · rintro ⟨h, h0⟩ i hi
      rcases Nat.lt_or_ge i n with l | l
      · exact h i l
      · rw [show i = n by omega]; exact h0
    · intro h
      exact ⟨fun i hi => h i (by omega), h n (by omega)⟩
theorem lensB_not {f : Nat → Int} {n k : Nat} (hk : k < n) (h : lenB (f k) = false) : lensB f n = false := by
  cases hl : lensB f n with
  | false => rfl
  | true =>
    have := (lensB_iff f n).1 hl k hk
    have h2 : lenB (f k) = true := decide_eq_true this
    rw [h] at h2
    exact Bool.noConfusion h2
set_option maxHeartbeats 1000000 in
theorem lengths_any (p : Option Addr) (n c : Nat) (f : Nat → Int) (w : World) (hn : n ≤ 1048576) (hr : Reads w p n f) :
    Calls Try.prog 34 #[.slice p n c] w fun e w' => e = .returned (.bool (lensB f n)) ∧ w = w' := by
  rcases Nat.eq_zero_or_pos n with rfl | hp
  · clear hr
    go_enter Try.func34, Try.ntmps34
    go_wp2
    refine wp_loop_rounds 1 ?_
    rw [rounds_succ]
    go_wp2
    go_ret
    exact ⟨rfl, rfl⟩
  · obtain ⟨b, off, rfl, hc⟩ := hr hp
    have HC := hide hc
    clear hr hc
    go_enter Try.func34, Try.ntmps34
    go_wp2
    go_loop [7] (fun i => ∃ k : Nat, k ≤ n ∧ i = .int .i64 k ∧ Hid (lensB f k = true)) (fun i => n - (intOf i).toNat)
    case atStart => exact ⟨0, Nat.zero_le _, rfl, rfl⟩
    case round =>
      obtain ⟨k, hk, rfl, T⟩ := hrel
      by_cases hlt : k < n
      · have hltz : (k : Int) < (n : Int) := by omega
        have ck := HC.out k hlt
        have W := fun W => hide (bwithin_any (f k) 0 1048576 W)
        have e0 : inB (f k) 0 1048576 = lenB (f k) := rfl
        rw [e0] at W
        cases hl : lenB (f k) with
        | true =>
          have T2 : Hid (lensB f (k + 1) = true) := by show _ = _; rw [lensB, T.out, hl]; rfl
          rw [hl] at W
          clear hl e0 T
          go_wp2_with fail
          refine (W _).out.mono ?_
          rintro e w' ⟨rfl, rfl⟩
          go_wp2_with fail
          go_round
          case rel => exact ⟨k + 1, by omega, by go_num, T2⟩
          case measure => simp [intOf]; omega
        | false =>
          have e9 := hide (lensB_not hlt hl)
          rw [hl] at W
          clear hl e0 T
          go_wp2_with fail
          refine (W _).out.mono ?_
          rintro e w' ⟨rfl, rfl⟩
          go_wp2_with fail
          go_ret
          rw [e9.out]
          exact ⟨rfl, rfl⟩
      · have hltz : ¬ (k : Int) < (n : Int) := by omega
        obtain rfl : n = k := by omega
        go_wp2
        go_ret
        rw [T.out]
        exact ⟨rfl, rfl⟩
end Go.Proofs.Ytjaapdkhjgolfaa
