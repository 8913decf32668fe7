/- The laws' sanity check of package box returns true where Resolve and Offsets answer as the chapter asks; no other condition. -/
import Derived.Test.YtjaapdkhjgolfaaBoC
import Derived.Test.YtjaapdkhjgolfaaFxEq
import Derived.Test.YtjaapdkhjgolfaaBoA
import Derived.Test.YtjaapdkhjgolfaaFxCheck
import Derived.Test.YtjaapdkhjgolfaaGeBase
import Derived.Test.YtjaapdkhjgolfaaBoEl
import Derived.BigQuiet
import Derived.Test.YtjaapdkhjgolfaaMixJ
namespace Go.Proofs.Ytjaapdkhjgolfaa
open Go.RowKit Go.Sort
set_option linter.unusedVariables false
set_option linter.unusedSimpArgs false

theorem Reads.congr {w : World} {p : Option Addr} {n : Nat} {f g : Nat → Int} (h : Reads w p n f) (e : ∀ i, i < n → f i = g i) : Reads w p n g := fun hn => by
  obtain ⟨b, off, hp, hc⟩ := h hn
  exact ⟨b, off, hp, fun k hk => by rw [← e k hk]; exact hc k hk⟩
theorem pair_reads (w : World) (a b : Int) : Reads (w.alloc (.cells #[.int .i64 a, .int .i64 b] 3)) (some ⟨w.heap.size, 0, none⟩) 2 (fun i => if i = 0 then a else b) :=
  (IRow.new w 2 (fun i => if i = 0 then a else b)).reads
theorem shr_two {T : Int} {f : Nat → Int} (h0 : f 0 = 1) (h1 : f 1 = 2) (hT : T = 60) : shr T f 2 0 = 20 ∧ shr T f 2 1 = 40 := by
  subst hT
  have hg : Good f 2 := fun k hk => by
    rcases (show k = 0 ∨ k = 1 by omega) with rfl | rfl
    · rw [h0]; omega
    · rw [h1]; omega
  have hs : sumF f 2 = 3 := by simp [sumF, h0, h1]
  have q0 : quoF 60 3 f 0 = 20 := by unfold quoF; rw [h0]; rfl
  have q1 : quoF 60 3 f 1 = 40 := by unfold quoF; rw [h1]; rfl
  have hq : sumF (quoF 60 3 f) 2 = 60 := by simp [sumF, q0, q1]
  rcases shr_parts (T := 60) hg with ⟨e, _⟩ | ⟨_, h, g, _, hp⟩
  · omega
  · rw [hs, hq] at hp
    have p0 := hp 0 (by omega)
    have p1 := hp 1 (by omega)
    unfold partF at p0 p1
    rw [q0, if_neg (by omega)] at p0
    rw [q1, if_neg (by omega)] at p1
    omega
def awX (k : Nat) : Fx := if k = 0 then ⟨20, 0, 1000, 1, 0⟩ else ⟨10, 0, 1000, 2, 0⟩
theorem aw_tot : totF true 90 awX 2 (natF awX) (fr0 true awX) = 60 := by rfl
theorem aw_t0 : tgF true 90 awX 2 (natF awX) (fr0 true awX) 0 = 40 := by
  unfold tgF
  rw [aw_tot]
  have := (shr_two (T := 60) (f := pack (fr0 true awX) (wtF true awX) 2) rfl rfl rfl).1
  show (20 : Int) + 1 * shr 60 (pack (fr0 true awX) (wtF true awX) 2) 2 0 = 40
  rw [this]; rfl
theorem aw_t1 : tgF true 90 awX 2 (natF awX) (fr0 true awX) 1 = 50 := by
  unfold tgF
  rw [aw_tot]
  have := (shr_two (T := 60) (f := pack (fr0 true awX) (wtF true awX) 2) rfl rfl rfl).2
  show (10 : Int) + 1 * shr 60 (pack (fr0 true awX) (wtF true awX) 2) 2 1 = 50
  rw [this]; rfl
theorem aw_v : vioF true 90 awX 2 (natF awX) (fr0 true awX) = 0 := by
  unfold vioF
  have z0 : fr0 true awX 0 = false := rfl
  have z1 : fr0 true awX 1 = false := rfl
  simp only [sumF, z0, z1, aw_t0, aw_t1]
  rfl
theorem aw_res : ∀ i, i < 2 → resF 100 10 awX 2 i = if i = 0 then 40 else 50 := by
  have hg : growB (spcF 100 10 2) awX 2 = true := rfl
  have hs : spcF 100 10 2 = 90 := rfl
  have z0 : fr0 true awX 0 = false := rfl
  have z1 : fr0 true awX 1 = false := rfl
  have s0 : stepF true 90 awX 2 (natF awX) (fr0 true awX) 0 = (40, true) := by
    unfold stepF
    rw [z0, aw_v, aw_t0]
    rfl
  have s1 : stepF true 90 awX 2 (natF awX) (fr0 true awX) 1 = (50, true) := by
    unfold stepF
    rw [z1, aw_v, aw_t1]
    rfl
  intro i hi
  unfold resF
  rw [hg, hs]
  have e : ∀ k, k < 2 → (itS true 90 awX 2 1).1 k = (if k = 0 then 40 else 50) ∧ (itS true 90 awX 2 1).2 k = true := fun k hk => by
    rcases (show k = 0 ∨ k = 1 by omega) with rfl | rfl
    · show (stepF true 90 awX 2 (natF awX) (fr0 true awX) 0).1 = _ ∧ (stepF true 90 awX 2 (natF awX) (fr0 true awX) 0).2 = _
      rw [s0]; exact ⟨rfl, rfl⟩
    · show (stepF true 90 awX 2 (natF awX) (fr0 true awX) 1).1 = _ ∧ (stepF true 90 awX 2 (natF awX) (fr0 true awX) 1).2 = _
      rw [s1]; exact ⟨rfl, rfl⟩
  show (stepF true 90 awX 2 (itS true 90 awX 2 1).1 (itS true 90 awX 2 1).2 i).1 = _
  unfold stepF
  rw [(e i hi).2, if_pos rfl]
  exact (e i hi).1
theorem aw_ok : ∀ i, i < 2 → okF (awX i) := fun i hi => by
  rcases (show i = 0 ∨ i = 1 by omega) with rfl | rfl
  · unfold okF awX; simp
  · unfold okF awX; simp
theorem aw_of : ∀ i, i < 2 → ofF 100 10 0 2 (fun i => if i = 0 then 40 else 50) true i = if i = 0 then 60 else 0 := fun i hi => by
  have e1 : extO 100 10 0 2 (fun i => if i = 0 then 40 else 50) 1 = 0 := by unfold extO; rw [if_neg (fun h => absurd h.1 (by omega))]
  rcases (show i = 0 ∨ i = 1 by omega) with rfl | rfl
  · rfl
  · unfold ofF posO
    rw [e1]
    rfl
theorem aw_ob : ofB 100 10 0 2 (fun i => if i = 0 then 40 else 50) = true := rfl
theorem srow_two (w : World) (x : Nat → Fx) : SRow (w.alloc (.cells #[fxC x 0 0, fxC x 0 1, fxC x 0 2, fxC x 0 3, fxC x 0 4, fxC x 1 0, fxC x 1 1, fxC x 1 2, fxC x 1 3, fxC x 1 4] 36)) (some ⟨w.heap.size, 0, none⟩) 2 5 (fxC x) := fun _ => by
  refine ⟨w.heap.size, 0, rfl, by simp, fun i hi j hj => ?_⟩
  have e := heap_alloc_new w (.cells #[fxC x 0 0, fxC x 0 1, fxC x 0 2, fxC x 0 3, fxC x 0 4, fxC x 1 0, fxC x 1 1, fxC x 1 2, fxC x 1 3, fxC x 1 4] 36)
  unfold World.cell?
  rw [e]
  rcases (show i = 0 ∨ i = 1 by omega) with rfl | rfl
  · rcases (show j = 0 ∨ j = 1 ∨ j = 2 ∨ j = 3 ∨ j = 4 by omega) with rfl | rfl | rfl | rfl | rfl <;> rfl
  · rcases (show j = 0 ∨ j = 1 ∨ j = 2 ∨ j = 3 ∨ j = 4 by omega) with rfl | rfl | rfl | rfl | rfl <;> rfl
end Go.Proofs.Ytjaapdkhjgolfaa
/- The laws' sanity check of package box returns true where Resolve and Offsets answer as the chapter asks; no other condition. -/
namespace Go.Proofs.Ytjaapdkhjgolfaa
open Go.RowKit Go.Sort
set_option linter.unusedVariables false
set_option linter.unusedSimpArgs false

theorem below_drawn {w0 w w' : World} (h : Below w0.heap.size w0 w) (d : Drawn w w') : Below w0.heap.size w0 w' := by
  obtain ⟨k, rfl⟩ := d
  exact ⟨h.os, h.tape, h.output, h.size, h.block⟩
set_option maxHeartbeats 4000000 in
theorem bawake_any (hR : KRes 11) (hO : KOff 20) (w : World) :
    Calls Try.prog 14 #[] w fun e w' => e = .returned (.bool true) ∧ Below w.heap.size w w' := by
  have H1 := hR 100 10 _ 2 2 awX _ (srow_two w awX) (by omega)
  have HO := hide hO
  have B1 : Hid (Below w.heap.size w (w.alloc (.cells #[fxC awX 0 0, fxC awX 0 1, fxC awX 0 2, fxC awX 0 3, fxC awX 0 4, fxC awX 1 0, fxC awX 1 1, fxC awX 1 2, fxC awX 1 3, fxC awX 1 4] 36))) := (Below.refl _ _).alloc (Nat.le_refl _) _
  have e0 : erR 100 10 awX 2 = 0 := er_ok (by omega) (by omega) (by omega) aw_ok
  simp only [e0, if_true, eq_self_iff_true] at H1
  replace H1 := hide H1
  clear hR hO e0
  go_enter Try.func14, Try.ntmps14
  go_wp2_with fail
  refine H1.out.mono ?_
  rintro e w1 ⟨q, d, rfl, h1, h2⟩
  have R1 : Hid (Reads w1 q 2 (fun i => if i = 0 then 40 else 50)) := h1.congr aw_res
  have B2 : Hid (Below w.heap.size w w1) := B1.out.trans (h2.mono B1.out.size)
  clear H1 B1 h1 h2
  have R2 : Hid (Reads (w1.alloc (.cells #[.int .i64 40, .int .i64 50] 3)) q 2 (fun i => if i = 0 then 40 else 50)) := R1.out.below ((Below.refl _ _).alloc (Nat.le_refl _) _)
  have B3 : Hid (Below w.heap.size w (w1.alloc (.cells #[.int .i64 40, .int .i64 50] 3))) := B2.out.alloc B2.out.size _
  have E1 := hide (equal_yes q (some ⟨w1.heap.size, 0, none⟩) 2 d 2 _ _ (by omega) R2.out (pair_reads w1 40 50))
  clear B2 R1
  go_wp2_with fail
  refine E1.out.mono ?_
  rintro e w2 ⟨rfl, hd⟩
  have B4 := hide (below_drawn B3.out hd)
  have R3 : Hid (Reads w2 q 2 (fun i => if i = 0 then 40 else 50)) := by obtain ⟨k, rfl⟩ := hd; exact R2.out
  clear E1 B3 R2 hd
  have H2 := HO.out 100 10 0 q 2 d _ true w2 R3.out (by omega)
  simp only [aw_ob, if_true, eq_self_iff_true] at H2
  replace H2 := hide H2
  go_wp2_with fail
  refine H2.out.mono ?_
  rintro e w3 ⟨q3, d3, rfl, h1, h2⟩
  have R4 : Hid (Reads w3 q3 2 (fun i => if i = 0 then 60 else 0)) := h1.congr aw_of
  have B5 : Hid (Below w.heap.size w w3) := B4.out.trans (h2.mono B4.out.size)
  clear H2 B4 h1 h2 R3 HO
  have R5 : Hid (Reads (w3.alloc (.cells #[.int .i64 60, .int .i64 0] 3)) q3 2 (fun i => if i = 0 then 60 else 0)) := R4.out.below ((Below.refl _ _).alloc (Nat.le_refl _) _)
  have B6 : Hid (Below w.heap.size w (w3.alloc (.cells #[.int .i64 60, .int .i64 0] 3))) := B5.out.alloc B5.out.size _
  have E2 := hide (equal_yes q3 (some ⟨w3.heap.size, 0, none⟩) 2 d3 2 _ _ (by omega) R5.out (pair_reads w3 60 0))
  clear B5 R4
  go_wp2_with fail
  refine E2.out.mono ?_
  rintro e w4 ⟨rfl, hd⟩
  have B7 := hide (below_drawn B6.out hd)
  clear E2 B6 R5 hd
  go_wp2_with fail
  go_ret
  exact ⟨rfl, B7.out⟩
end Go.Proofs.Ytjaapdkhjgolfaa
/- Elements that grow and have no upper limit fill the space exactly; no premise on the program. -/
namespace Go.Proofs.Ytjaapdkhjgolfaa
open Go.RowKit Go.Sort
set_option linter.unusedVariables false
set_option linter.unusedSimpArgs false

theorem sum_le_zero {f : Nat → Int} : ∀ {n : Nat}, (∀ i, i < n → 0 ≤ f i) → sumF f n = 0 → ∀ i, i < n → f i = 0
  | n + 1, h, hs, i, hi => by
    have h1 := sum_nonneg (f := f) n fun k hk => h k (by omega)
    have h2 := h n (by omega)
    simp only [sumF] at hs
    rcases Nat.lt_or_ge i n with hl | hl
    · exact sum_le_zero (fun k hk => h k (by omega)) (by omega) i hl
    · rw [show i = n by omega]; omega
theorem sum_if (z : Nat → Bool) (s a b : Nat → Int) : ∀ n, sumF (fun i => if z i then s i else a i + b i) n = sumF (fun i => if z i then s i else a i) n + sumF (fun i => if z i then 0 else b i) n
  | 0 => rfl
  | n + 1 => by
    simp only [sumF, sum_if z s a b n]
    cases z n <;> simp <;> omega
theorem nat_max {x : Fx} (hx : okF x) (hm : x.mx = 1048576) : clF x x.ba = max x.ba x.mn := by
  obtain ⟨h1, h2, h3, _⟩ := hx
  unfold clF clampS
  rw [hm]
  (repeat' split) <;> omega
theorem cl_up {x : Fx} (hx : okF x) (hm : x.mx = 1048576) {t : Int} (ht : t ≤ 1048576) : clF x t = max t x.mn := by
  obtain ⟨h1, h2, h3, _⟩ := hx
  unfold clF clampS
  rw [hm]
  (repeat' split) <;> omega

section
variable {sp : Int} {x : Nat → Fx} {n : Nat}
/-- The sizes of the frozen ones and the natural sizes of the others fit; and where all are frozen the space is full. -/
def Fit (sp : Int) (x : Nat → Fx) (n : Nat) (s : Nat → Int) (z : Nat → Bool) : Prop :=
  sumF (fun i => if z i then s i else natF x i) n ≤ sp ∧ (0 < rk z n ∨ sumF s n = sp)
theorem fit_step (hx : ∀ i, i < n → okF (x i)) (hm : ∀ i, i < n → (x i).mx = 1048576) (hsp : sp ≤ 1048576) {s : Nat → Int} {z : Nat → Bool}
    (hs : ∀ i, i < n → 0 ≤ s i) (hw : ∀ i, i < n → z i = false → 1 ≤ wtF true x i) (h : Fit sp x n s z) :
    Fit sp x n (fun i => (stepF true sp x n s z i).1) (fun i => (stepF true sp x n s z i).2) := by
  obtain ⟨h1, h2⟩ := h
  rcases Nat.eq_zero_or_pos (rk z n) with hr | hr
  · have hz := fun i (hi : i < n) => rk_zero hr hi
    have hsum : sumF s n = sp := by
      rcases h2 with h2 | h2
      · omega
      · exact h2
    have e1 : ∀ i, i < n → stepF true sp x n s z i = (s i, true) := fun i hi => by simp [stepF, hz i hi]
    refine ⟨?_, Or.inr ?_⟩
    · rw [sum_congr n (g := s) fun i hi => by simp [e1 i hi], hsum]; exact Int.le_refl _
    · rw [sum_congr n (g := s) fun i hi => by simp [e1 i hi], hsum]
  · -- the parts
    have hgood : Good (pack z (wtF true x) n) (rk z n) := pack_good hx
    have hnat : ∀ i, i < n → (x i).ba ≤ natF x i := fun i hi => by
      unfold natF; rw [nat_max (hx i hi) (hm i hi)]; omega
    have hba : sumF (fun i => if z i then s i else (x i).ba) n ≤ sp := by
      refine Int.le_trans (sum_le n fun i hi => ?_) h1
      show (if z i then s i else (x i).ba) ≤ (if z i then s i else natF x i)
      split
      · exact Int.le_refl _
      · exact hnat i hi
    have hT : totF true sp x n s z = sp - sumF (fun i => if z i then s i else (x i).ba) n := by
      unfold totF sgF freF
      simp only [if_true]
      omega
    have hT0 : 0 ≤ totF true sp x n s z := by rw [hT]; omega
    have hpos : 0 < sumF (pack z (wtF true x) n) (rk z n) := by
      have a := le_sum (f := pack z (wtF true x) n) (rk z n) (fun k hk => (hgood k hk).1) 0 hr
      have b := pack_all (z := z) (a := wtF true x) (p := fun v => 1 ≤ v) (n := n) (k := 0) hw hr
      have b' : 1 ≤ pack z (wtF true x) n 0 := b
      omega
    have hP := shr_parts (T := totF true sp x n s z) hgood
    have hsum : sumF (shr (totF true sp x n s z) (pack z (wtF true x) n) (rk z n)) (rk z n) = totF true sp x n s z := by
      rcases hP.sum hgood with ⟨a, _⟩ | ⟨_, a⟩
      · omega
      · exact a
    have hPb : ∀ i, i < n → z i = false → 0 ≤ shr (totF true sp x n s z) (pack z (wtF true x) n) (rk z n) (rk z i) := fun i hi hz =>
      (shr_bd hgood hT0 (rk_lt hi hz)).1
    -- the targets
    have ht : ∀ i, tgF true sp x n s z i = (x i).ba + shr (totF true sp x n s z) (pack z (wtF true x) n) (rk z n) (rk z i) := fun i => by
      unfold tgF sgF; simp
    have hsumt : sumF (fun i => if z i then s i else tgF true sp x n s z i) n = sp := by
      rw [sum_congr n (g := fun i => if z i then s i else (x i).ba + shr (totF true sp x n s z) (pack z (wtF true x) n) (rk z n) (rk z i)) fun i hi => by rw [ht i], sum_if z s (fun i => (x i).ba) (fun i => shr (totF true sp x n s z) (pack z (wtF true x) n) (rk z n) (rk z i)) n, sum_ranks n, hsum, hT]
      omega
    have ht0 : ∀ i, i < n → z i = false → 0 ≤ tgF true sp x n s z i := fun i hi hz => by
      rw [ht i]; have := hPb i hi hz; have := (hx i hi).1; omega
    have htb : ∀ i, i < n → z i = false → tgF true sp x n s z i ≤ 1048576 := fun i hi hz => by
      have a := le_sum (f := fun i => if z i then s i else tgF true sp x n s z i) n (fun k hk => by
        show 0 ≤ (if z k then s k else tgF true sp x n s z k)
        cases hk2 : z k with
        | true => simp; exact hs k hk
        | false => simp; exact ht0 k hk hk2) i hi
      rw [hsumt] at a
      simp only [hz] at a
      simp at a
      omega
    have hc : ∀ i, i < n → z i = false → clF (x i) (tgF true sp x n s z i) = max (tgF true sp x n s z i) (x i).mn := fun i hi hz => cl_up (hx i hi) (hm i hi) (htb i hi hz)
    generalize hv : vioF true sp x n s z = v
    have hv' : sumF (fun i => if z i then 0 else clF (x i) (tgF true sp x n s z i) - tgF true sp x n s z i) n = v := hv
    have hnn : ∀ i, i < n → 0 ≤ (if z i then (0 : Int) else clF (x i) (tgF true sp x n s z i) - tgF true sp x n s z i) := fun i hi => by
      cases hz : z i with
      | true => simp
      | false => simp only [Bool.false_eq_true, if_false]; rw [hc i hi hz]; omega
    have hv0 : 0 ≤ v := by rw [← hv']; exact sum_nonneg n hnn
    have hcs : sumF (fun i => if z i then s i else clF (x i) (tgF true sp x n s z i)) n = sp + v := by
      have a := sum_if z s (fun i => tgF true sp x n s z i) (fun i => clF (x i) (tgF true sp x n s z i) - tgF true sp x n s z i) n
      rw [hsumt, hv'] at a
      rw [← a]
      refine sum_congr n fun i hi => ?_
      cases z i <;> simp
      omega
    rcases Int.lt_or_eq_of_le hv0 with hp | hp
    · -- some are frozen at their lower limits
      have hit : ∀ i, hitB v (clF (x i) (tgF true sp x n s z i)) (tgF true sp x n s z i) = decide (tgF true sp x n s z i < clF (x i) (tgF true sp x n s z i)) := fun i => by
        have a : ¬ v = 0 := by omega
        have b : ¬ v < 0 := by omega
        simp [hitB, a, b, hp]
      have hnatc : ∀ i, i < n → z i = false → tgF true sp x n s z i < clF (x i) (tgF true sp x n s z i) → clF (x i) (tgF true sp x n s z i) = natF x i := fun i hi hz hl => by
        have a := hc i hi hz
        have b : natF x i = max (x i).ba (x i).mn := nat_max (hx i hi) (hm i hi)
        have c := hPb i hi hz
        have d := ht i
        omega
      have es : ∀ i, i < n → (if (stepF true sp x n s z i).2 then (stepF true sp x n s z i).1 else natF x i) = (if z i then s i else natF x i) := fun i hi => by
        unfold stepF
        rw [hv, hit i]
        cases hz : z i with
        | true => simp
        | false =>
          simp only [Bool.false_eq_true, if_false]
          by_cases hl : tgF true sp x n s z i < clF (x i) (tgF true sp x n s z i)
          · rw [decide_eq_true hl]; simp; exact hnatc i hi hz hl
          · rw [decide_eq_false hl]; simp
      refine ⟨by rw [sum_congr n es]; exact h1, Or.inl ?_⟩
      apply Nat.pos_of_ne_zero
      intro h0
      have hall := fun i (hi : i < n) => rk_zero h0 hi
      have : sumF (fun i => if z i then s i else clF (x i) (tgF true sp x n s z i)) n = sumF (fun i => if z i then s i else natF x i) n := by
        refine sum_congr n fun i hi => ?_
        have a := hall i hi
        simp only [stepF, hv, hit i] at a
        cases hz : z i with
        | true => simp
        | false =>
          rw [hz] at a
          simp only [Bool.false_eq_true, if_false]
          by_cases hl : tgF true sp x n s z i < clF (x i) (tgF true sp x n s z i)
          · exact hnatc i hi hz hl
          · simp [hl] at a
      omega
    · -- all are frozen
      have hzz : v = 0 := hp.symm
      have hct : ∀ i, i < n → z i = false → clF (x i) (tgF true sp x n s z i) = tgF true sp x n s z i := fun i hi hz => by
        have a := sum_le_zero hnn (by rw [hv', hzz]) i hi
        rw [hz] at a
        simp at a
        omega
      have e1 : ∀ i, i < n → stepF true sp x n s z i = (if z i then s i else tgF true sp x n s z i, true) := fun i hi => by
        unfold stepF
        rw [hv, hzz]
        cases hz : z i with
        | true => simp
        | false => simp [hitB, hct i hi hz]
      have e2 : sumF (fun i => (stepF true sp x n s z i).1) n = sp := by
        rw [sum_congr n (g := fun i => if z i then s i else tgF true sp x n s z i) fun i hi => by simp [e1 i hi], hsumt]
      refine ⟨?_, Or.inr e2⟩
      rw [sum_congr n (g := fun i => (stepF true sp x n s z i).1) fun i hi => by simp [e1 i hi], e2]
      exact Int.le_refl _
theorem fills (hx : ∀ i, i < n → okF (x i)) (hm : ∀ i, i < n → (x i).mx = 1048576) (hsp : sp ≤ 1048576) (hn : sumF (natF x) n ≤ sp) (hg : ∃ i, i < n ∧ 1 ≤ (x i).gr) :
    sumF (itS true sp x n n).1 n = sp := by
  have hfr : ∀ i, i < n → fr0 true x i = false → 1 ≤ wtF true x i := fun i hi h => by
    have := (hx i hi).2.2.2.1
    unfold fr0 at h
    simp at h
    have a := h.1
    unfold wtF at a ⊢
    simp only [if_true] at a ⊢
    omega
  have h0 : Fit sp x n (itS true sp x n 0).1 (itS true sp x n 0).2 := by
    refine ⟨?_, Or.inl ?_⟩
    · rw [sum_congr n (g := natF x) fun i hi => ?_]
      · exact hn
      · show (if fr0 true x i then natF x i else natF x i) = natF x i
        split <;> rfl
    · obtain ⟨i, hi, h1⟩ := hg
      have hz : fr0 true x i = false := by
        have b : natF x i = max (x i).ba (x i).mn := nat_max (hx i hi) (hm i hi)
        unfold fr0 wtF
        simp
        omega
      exact Nat.lt_of_le_of_lt (Nat.zero_le _) (rk_lt hi hz)
  have hall : ∀ k, Fit sp x n (itS true sp x n k).1 (itS true sp x n k).2 := by
    intro k
    induction k with
    | zero => exact h0
    | succ k ih =>
      refine fit_step hx hm hsp (fun i hi => (it_ok hx k hi).1) (fun i hi hz => ?_) ih
      refine hfr i hi ?_
      cases hf : fr0 true x i with
      | false => rfl
      | true => rw [(it_first (sp := sp) (n := n) hf k).2] at hz; exact absurd hz (by simp)
  rcases (hall n).2 with h | h
  · rw [it_done] at h; omega
  · exact h
end
end Go.Proofs.Ytjaapdkhjgolfaa
/- The references' sum of a list of integers that are no greater than 2^40; no other condition. -/
namespace Go.Proofs.Ytjaapdkhjgolfaa
open Go.RowKit Go.Sort
set_option linter.unusedVariables false
set_option linter.unusedSimpArgs false

set_option maxHeartbeats 2000000 in
theorem rSum_any (p : Option Addr) (n c : Nat) (f : Nat → Int) (w : World) (hr : Reads w p n f) (hn : n ≤ 1000) (hf : ∀ i, i < n → -1099511627776 ≤ f i ∧ f i ≤ 1099511627776) :
    Calls Try.prog 19 #[.slice p n c] w fun e w' => e = .returned (.int .i64 (sumF f n)) ∧ w' = w := by
  have H := hide hr
  have HF := hide hf
  clear hr hf
  go_enter Try.func19, Try.ntmps19
  go_wp2_with fail
  go_loopg [3, 4] (n + 1) (fun g1 va vk wr => ∃ k : Nat, va = .int .i64 (sumF f k) ∧ vk = .int .i64 (k : Int) ∧ k ≤ n ∧ n - k < g1 ∧ (-(k : Int) * 1099511627776 ≤ sumF f k ∧ sumF f k ≤ k * 1099511627776) ∧ Hid (wr = w))
  case atStart => exact ⟨0, rfl, by go_num, by omega, by omega, by simp [sumF], rfl⟩
  case round =>
    obtain ⟨k, rfl, rfl, hk, hg, ⟨s1, s2⟩, HW⟩ := hrel
    obtain rfl := HW.out
    by_cases hlt : k < n
    · have hltz : (k : Int) < (n : Int) := by omega
      obtain ⟨b, off, rfl, hb⟩ := H.out (by omega)
      have c1 : wr.cell? ⟨b, off + k, none⟩ = some (.int .i64 (f k)) := hb k hlt
      have es : sumF f (k + 1) = sumF f k + f k := rfl
      have ⟨f1, f2⟩ := HF.out k hlt
      replace es := hide es
      clear hb HW
      generalize sumF f k = sk at *
      generalize f k = fk at *
      have v1 : IntKind.i64.wrap (sk + fk) = sk + fk := by rw [IntKind.wrap_i64]; omega
      go_wp2_with fail
      go_roundg (n - k)
      case measure => omega
      case rel => exact ⟨k + 1, by rw [es.out], by go_num, by omega, by omega, by rw [es.out]; push_cast; omega, rfl⟩
    · have hltz : ¬ (k : Int) < (n : Int) := by omega
      obtain rfl : n = k := by omega
      go_wp2_with fail
      go_ret
      exact ⟨rfl, rfl⟩
end Go.Proofs.Ytjaapdkhjgolfaa
/- What the law BoxFills runs, where Resolve (and, for the sanity check, Offsets) answer as the chapter asks; no other condition. -/
namespace Go.Proofs.Ytjaapdkhjgolfaa
open Go.RowKit Go.Sort
set_option linter.unusedVariables false
set_option linter.unusedSimpArgs false

/-- A block of structs, read and written. -/
def FRow (W : World) (b n k : Nat) (T : TypeId) (F : Nat → Nat → Value) : Prop := ∃ vs, Blk W b T vs ∧ ∀ i, i < n → ∀ j, j < k → vs[i * k + j]? = some (F i j)
theorem FRow.srow {W : World} {b n k : Nat} {T : TypeId} {F : Nat → Nat → Value} (h : FRow W b n k T F) : SRow W (some ⟨b, 0, none⟩) n k F := fun _ => by
  obtain ⟨vs, hb, hc⟩ := h
  exact ⟨b, 0, rfl, hb.lt, fun i hi j hj => by rw [Nat.zero_add]; exact hb.cell _ (hc i hi j hj)⟩
theorem FRow.cell {W : World} {b n k : Nat} {T : TypeId} {F : Nat → Nat → Value} (h : FRow W b n k T F) {i j : Nat} (hi : i < n) (hj : j < k) : W.cell? ⟨b, i * k + j, none⟩ = some (F i j) := by
  obtain ⟨vs, hb, hc⟩ := h
  exact hb.cell _ (hc i hi j hj)
theorem FRow.free {W : World} {b n k : Nat} {T : TypeId} {F : Nat → Nat → Value} (h : FRow W b n k T F) (j : Nat) : W.frozen? ⟨b, j, none⟩ = false := by
  obtain ⟨vs, hb, hc⟩ := h
  exact hb.free j
theorem FRow.set {W : World} {b n k : Nat} {T : TypeId} {F : Nat → Nat → Value} (h : FRow W b n k T F) {i0 j0 : Nat} (hi : i0 < n) (hj : j0 < k) (u : Value) : FRow (W.setCell ⟨b, i0 * k + j0, none⟩ u) b n k T (fun i j => if i = i0 ∧ j = j0 then u else F i j) := by
  obtain ⟨vs, hb, hc⟩ := h
  refine ⟨_, hb.set _ u, fun i hi' j hj' => ?_⟩
  by_cases e : i = i0 ∧ j = j0
  · obtain ⟨rfl, rfl⟩ := e
    have hl := hc i hi j hj
    have hlt : i * k + j < vs.length := by
      rcases Nat.lt_or_ge (i * k + j) vs.length with q | q
      · exact q
      · rw [List.getElem?_eq_none q] at hl; cases hl
    simp [hlt]
  · have hne : i0 * k + j0 ≠ i * k + j := by
      intro q
      rcases Nat.lt_trichotomy i i0 with h1 | h1 | h1
      · have := Nat.mul_le_mul_right k h1; rw [Nat.succ_mul] at this; omega
      · subst h1; exact e ⟨rfl, by omega⟩
      · have := Nat.mul_le_mul_right k h1; rw [Nat.succ_mul] at this; omega
    show _ = some (if i = i0 ∧ j = j0 then u else F i j)
    rw [if_neg e, List.getElem?_set_ne hne]
    exact hc i hi' j hj'
theorem FRow.congr {W : World} {b n k : Nat} {T : TypeId} {F G : Nat → Nat → Value} (h : FRow W b n k T F) (e : ∀ i, i < n → ∀ j, j < k → F i j = G i j) : FRow W b n k T G := by
  obtain ⟨vs, hb, hc⟩ := h
  exact ⟨vs, hb, fun i hi j hj => by rw [← e i hi j hj]; exact hc i hi j hj⟩
theorem FRow.below {W W' : World} {b n k : Nat} {T : TypeId} {F : Nat → Nat → Value} {B : Nat} (h : FRow W b n k T F) (g : Below B W W') (hb : b < B) : FRow W' b n k T F := by
  obtain ⟨vs, hv, hc⟩ := h
  exact ⟨vs, (g.block b hb).trans hv, hc⟩
theorem FRow.but {W W' : World} {b n k sb : Nat} {T : TypeId} {F : Nat → Nat → Value} (h : FRow W b n k T F) (g : But sb W W') (hb : b ≠ sb) : FRow W' b n k T F := by
  obtain ⟨vs, hv, hc⟩ := h
  exact ⟨vs, g.blk hv hb, hc⟩
theorem FRow.lt {W : World} {b n k : Nat} {T : TypeId} {F : Nat → Nat → Value} (h : FRow W b n k T F) : b < W.heap.size := by
  obtain ⟨vs, hb, _⟩ := h
  exact hb.lt
theorem own_frow {w : World} {base n k : Nat} {T : TypeId} {v : Value} {f : Nat → Nat → Value} (h : w.ownsRow base T k v n (flat n k f)) : ∃ q cap, v = .slice q n cap ∧ (0 < n → ∃ b, q = some ⟨b, 0, none⟩ ∧ base ≤ b ∧ FRow w b n k T f) := by
  rcases h.2 with ⟨rfl, rfl⟩ | ⟨g, cap, cur, rfl, hb, hg, hc, hm, hs, ht⟩
  · exact ⟨none, 0, rfl, fun h => absurd h (Nat.lt_irrefl _)⟩
  · refine ⟨some ⟨g, 0, none⟩, cap, rfl, fun hn => ⟨g, rfl, hb, cur.toList, ?_, fun i hi j hj => ?_⟩⟩
    · show w.heap[g]? = _
      rw [hg]
    · have := flat_get (f := f) hi hj
      rw [← ht] at this
      have hlt : i * k + j < n * k := by
        have : (i + 1) * k ≤ n * k := Nat.mul_le_mul_right _ hi
        rw [Nat.succ_mul] at this; omega
      rw [List.getElem?_take, if_pos hlt] at this
      exact this

/-- The elements with no upper limit. -/
def upX (x : Nat → Fx) (k i : Nat) : Fx := if i < k then ⟨(x i).ba, (x i).mn, 1048576, (x i).gr, (x i).sh⟩ else x i
theorem upX_set (x : Nat → Fx) (k : Nat) : ∀ i j, (if i = k ∧ j = 2 then (.int .i64 1048576 : Value) else fxC (upX x k) i j) = fxC (upX x (k + 1)) i j := fun i j => by
  by_cases hi : i = k
  · subst hi
    by_cases hj : j = 2
    · subst hj
      simp [fxC, upX]
    · rw [if_neg (fun h => hj h.2)]
      unfold fxC upX
      simp only [Nat.lt_irrefl, if_false, Nat.lt_succ_self, if_true]
      match j with
      | 0 => rfl
      | 1 => rfl
      | 2 => exact absurd rfl hj
      | 3 => rfl
      | j + 4 => rfl
  · rw [if_neg (fun h => hi h.1)]
    unfold fxC upX
    by_cases h1 : i < k
    · simp [h1, show i < k + 1 by omega]
    · simp [h1, show ¬ i < k + 1 by omega]
def mbF (x : Nat → Fx) (i : Nat) : Int := max (x i).ba (x i).mn
def gpF (gap : Int) (k : Nat) : Int := if k = 0 then 0 else gap * ((k : Int) - 1)
theorem fills_law {av gap : Int} {n : Nat} {x : Nat → Fx} (hx : ∀ i, i < n → okF (x i)) (ha : av ≤ 1048576) (hg : 0 ≤ gap) (hs : sumF (mbF x) n + gpF gap n ≤ av) (hz : sumF (fun i => (x i).gr) n ≠ 0) :
    sumF (resF av gap (upX x n) n) n + gpF gap n = av ∧ 0 < n := by
  have hn : 0 < n := by
    rcases Nat.eq_zero_or_pos n with h | h
    · subst h; exact absurd rfl hz
    · exact h
  have hu : ∀ i, i < n → upX x n i = ⟨(x i).ba, (x i).mn, 1048576, (x i).gr, (x i).sh⟩ := fun i hi => by unfold upX; rw [if_pos hi]
  have hx' : ∀ i, i < n → okF (upX x n i) := fun i hi => by
    rw [hu i hi]
    obtain ⟨h1, h2, h3, h4⟩ := hx i hi
    exact ⟨h1, h2, ⟨by show (0 : Int) ≤ 1048576; omega, Int.le_refl _⟩, h4⟩
  have hm : ∀ i, i < n → (upX x n i).mx = 1048576 := fun i hi => by rw [hu i hi]
  have hnat : sumF (natF (upX x n)) n = sumF (mbF x) n := sum_congr n fun i hi => by
    have := nat_max (hx' i hi) (hm i hi)
    unfold natF mbF
    rw [this, hu i hi]
  have hsp : spcF av gap n = av - gpF gap n := by
    unfold spcF gpF
    rw [if_neg (by omega), if_neg (by omega)]
  have hgp : 0 ≤ gpF gap n := by
    unfold gpF
    rw [if_neg (by omega)]
    exact Int.mul_nonneg hg (by omega)
  have hle : sumF (natF (upX x n)) n ≤ spcF av gap n := by rw [hnat, hsp]; omega
  have hge : ∃ i, i < n ∧ 1 ≤ (upX x n i).gr := by
    apply Classical.byContradiction
    intro h
    apply hz
    have z : ∀ i, i < n → (x i).gr = (fun _ => (0 : Int)) i := fun i hi => by
      have h0 := (hx i hi).2.2.2.1.1
      have h1 : ¬ 1 ≤ (x i).gr := fun q => h ⟨i, hi, by rw [hu i hi]; exact q⟩
      show (x i).gr = 0
      omega
    rw [sum_congr n z]
    clear z h hle hgp hsp hnat hm hx' hu hn hz hs hx
    induction n with
    | zero => rfl
    | succ n ih => simp [sumF, ih]
  have e := fills hx' hm (sp := spcF av gap n) (by rw [hsp]; omega) hle hge
  have hgr : growB (spcF av gap n) (upX x n) n = true := decide_eq_true hle
  refine ⟨?_, hn⟩
  have e2 : sumF (resF av gap (upX x n) n) n = spcF av gap n := by
    rw [← e]
    refine sum_congr n fun i _ => ?_
    unfold resF
    rw [hgr]
  rw [e2, hsp]
  omega
theorem res_bd {av gap : Int} {n : Nat} {x : Nat → Fx} (hx : ∀ i, i < n → okF (x i)) {i : Nat} (hi : i < n) : 0 ≤ resF av gap x n i ∧ resF av gap x n i ≤ 1048576 := it_ok hx n hi
end Go.Proofs.Ytjaapdkhjgolfaa
/- A region that draws its order: values that hang on one another and on the world, each of which stays right when another operation runs; no condition. -/
namespace Go.Proofs.Ytjaapdkhjgolfaa
open Go.RowKit Go.Sort
namespace MJ
/-- What is right of the operations' values stays right. -/
def Stays (R : Nat → Value → World → Prop) (w w' : World) : Prop := ∀ b u, R b u w → R b u w'
section mixed
variable {P : Program} {ops : Array Oper}
theorem wp_region_free {id : Nat} {Q : Exit → Act → World → Prop} {a0 : Act} {w0 : World} {l : List Oper} (I : World → Prop) (R : Nat → Value → World → Prop) (B : List Nat) (S : List (Nat × Nat))
    (hm : P.follows .mixedOrders = true) (hB : mixB l.toArray B S = true) (hfits : ∀ p ∈ S, p.1 < a0.tmps.size) (h0 : I w0.drew)
    (h : wpLex P l.toArray B S (fun D vs w => I w ∧ ∀ b ∈ B, D b = true → R b (vs b) w) I (fun af => ∀ vs w, I w → (∀ b ∈ B, R b (vs b) w) → Q .normal (fillS S vs af) w) 0 l a0) : (Code.region id l.toArray true).wp P Q a0 w0 := by
  refine wp_region_mixed I B S (fun D vs w => I w ∧ ∀ b ∈ B, D b = true → R b (vs b) w) hm hB hfits (fun _ => ⟨h0, fun _ _ h => by cases h⟩) ?_ (fun D vs w i hM _ _ _ _ => hM.1) ?_
  · rintro D D' vs vs' w hD ⟨h1, h2⟩
    refine ⟨h1, fun b hb hd => ?_⟩
    obtain ⟨e1, e2⟩ := hD b hb
    rw [← e2 (by rw [e1]; exact hd)]
    exact h2 b hb (by rw [e1]; exact hd)
  · have key : ∀ (l' : List Oper) k a, wpLex P l.toArray B S (fun D vs w => I w ∧ ∀ b ∈ B, D b = true → R b (vs b) w) I (fun af => ∀ vs w, I w → (∀ b ∈ B, R b (vs b) w) → Q .normal (fillS S vs af) w) k l' a →
        wpLex P l.toArray B S (fun D vs w => I w ∧ ∀ b ∈ B, D b = true → R b (vs b) w) I (fun af => ∀ (vs : Nat → Value) w, (I w ∧ ∀ b ∈ B, (fun _ : Nat => true) b = true → R b (vs b) w) → Q .normal (fillS S vs af) w) k l' a := by
      intro l'
      induction l' with
      | nil => intro k a h; exact fun vs w hM => h vs w hM.1 fun b hb => hM.2 b hb rfl
      | cons o rest ih =>
        intro k a h
        unfold wpLex at h ⊢
        split
        · rename_i hb
          rw [if_pos hb] at h
          exact ⟨h.1, ih _ _ h.2⟩
        · rename_i hb
          rw [if_neg hb] at h
          split
          · rename_i hw
            rw [if_pos hw] at h
            obtain ⟨v, h1, h2⟩ := h
            exact ⟨v, h1, ih _ _ h2⟩
          · rename_i hw
            rw [if_neg hw] at h
            exact ih _ _ h
    exact key l 0 a0 h
section
variable {I : World → Prop} {R : Nat → Value → World → Prop} {B : List Nat} {S : List (Nat × Nat)} {Q : Act → Prop} {i : Nat} {o : Oper} {rest : List Oper} {a : Act}
/-- One operation of B: from I and from what it waits for. -/
theorem lex_free (hb : B.contains i = true) (hg : o.guard = none) (h : ∀ (vs : Nat → Value) (w : World), I w → (∀ k ∈ B, Region.waitsFor .any ops i k = true → R k (vs k) w) → does P o (evS S vs a) w fun v w' => I w' ∧ R i v w' ∧ Stays R w w')
    (hr : wpLex P ops B S (fun D vs w => I w ∧ ∀ b ∈ B, D b = true → R b (vs b) w) I Q (i + 1) rest (a.put o.dst undef)) : wpLex P ops B S (fun D vs w => I w ∧ ∀ b ∈ B, D b = true → R b (vs b) w) I Q i (o :: rest) a := by
  refine lex_made hb hg ?_ hr
  rintro D vs w ⟨h1, h2⟩ hD hcl hdep
  have := h vs w h1 fun k hk hw => h2 k hk (hdep k hw)
  unfold does at this ⊢
  generalize (execOp (evS S vs a) o).run P w = r at *
  have key : ∀ v w', (I w' ∧ R i v w' ∧ Stays R w w') → I w' ∧ ∀ b ∈ B, upd D i true b = true → R b (upd vs i v b) w' := by
    rintro v w' ⟨k1, k2, k3⟩
    refine ⟨k1, fun b hb hd => ?_⟩
    by_cases e : b = i
    · subst e; simpa [upd] using k2
    · simp only [upd, if_neg e] at hd ⊢; exact k3 _ _ (h2 b hb hd)
  cases r with
  | ok n w' =>
    cases n <;> simp only [doesUpon] at this ⊢
    case value u => exact key _ _ this
    case skip => exact key _ _ this
    case enter f args => exact this.mono fun e w'' ⟨v, he, hr⟩ => ⟨v, he, key _ _ hr⟩
  | halt x w' => simp only [doesUpon] at this
end

end mixed
end MJ
end Go.Proofs.Ytjaapdkhjgolfaa
/- What the law BoxResolves runs, where Resolve, its reference and Offsets answer as the chapter asks; no other condition. -/
namespace Go.Proofs.Ytjaapdkhjgolfaa
open Go.RowKit Go.Sort
set_option linter.unusedVariables false
set_option linter.unusedSimpArgs false

def avL : List Value := [.int .i64 0, .int .i64 1, .int .i64 50, .int .i64 100, .int .i64 101, .int .i64 200, .int .i64 1000]
def avF (k : Nat) : Int := match k with
  | 0 => 0 | 1 => 1 | 2 => 50 | 3 => 100 | 4 => 101 | 5 => 200 | _ => 1000
theorem av_at {k : Nat} (hk : k < 7) : avL[k]? = some (.int .i64 (avF k)) := by
  match k, hk with
  | 0, _ => rfl
  | 1, _ => rfl
  | 2, _ => rfl
  | 3, _ => rfl
  | 4, _ => rfl
  | 5, _ => rfl
  | 6, _ => rfl
theorem av_bd (k : Nat) : 0 ≤ avF k ∧ avF k ≤ 1000 := by
  unfold avF
  split <;> omega
/-- The values of the operations of the region that draws the space and the gap. -/
def R2 (sb : Nat) (i : Nat) (v : Value) (w : World) : Prop :=
  if i = 0 then ∃ b, v = .slice (some ⟨b, 0, none⟩) 7 7 ∧ b ≠ sb ∧ Blk w b 3 avL
  else if i = 2 then isE v 7
  else if i = 3 then ∃ b k, k < 7 ∧ v = .pointer (some ⟨b, k, none⟩) ∧ b ≠ sb ∧ Blk w b 3 avL
  else if i = 4 ∨ i = 7 then ∃ y, (0 ≤ y ∧ y ≤ 1000) ∧ v = .int .i64 y
  else isE v 12
theorem R2.but {sb i : Nat} {v : Value} {w w' : World} (h : R2 sb i v w) (g : But sb w w') : R2 sb i v w' := by
  unfold R2 at *
  split at h
  · rename_i e; rw [if_pos e]; obtain ⟨b, h1, h2, h3⟩ := h; exact ⟨b, h1, h2, g.blk h3 h2⟩
  · rename_i e; rw [if_neg e]
    split at h
    · rename_i e; rw [if_pos e]; exact h
    · rename_i e; rw [if_neg e]
      split at h
      · rename_i e; rw [if_pos e]; obtain ⟨b, k, h0, h1, h2, h3⟩ := h; exact ⟨b, k, h0, h1, h2, g.blk h3 h2⟩
      · rename_i e; rw [if_neg e]; exact h
/-- The world with no count of draws: a base that every later world has grown from. -/
def base0 (W : World) : World := { W with drawn := 0 }
theorem base0_grew {W w : World} (h : Below W.heap.size W w) : Grew (base0 W) w := ⟨⟨h.os, h.tape, h.output, h.size, h.block⟩, Nat.zero_le _⟩
theorem base0_below {W w : World} (h : Grew (base0 W) w) : Below W.heap.size W w := ⟨h.1.os, h.1.tape, h.1.output, h.1.size, h.1.block⟩
end Go.Proofs.Ytjaapdkhjgolfaa
/- What the law BoxResolves runs, where Resolve, its reference and Offsets answer as the chapter asks; no other condition. -/
namespace Go.Proofs.Ytjaapdkhjgolfaa
open Go.RowKit Go.Sort
set_option linter.unusedVariables false
set_option linter.unusedSimpArgs false

set_option maxRecDepth 100000 in
set_option maxHeartbeats 20000000 in
theorem res_core (hR : KRes 11) (hO : KOff 20) (hq : KRes 12) (p : Option Addr) (n0 c0 : Nat) (f : Nat → Int) (W : World) (hnc : n0 ≤ c0) (hr : Reads W p n0 f) (hf : ∀ k, -9223372036854775808 ≤ f k ∧ f k ≤ 9223372036854775807) :
    Calls Try.prog 4 #[.slice p n0 c0] W fun e w' => e = .returned (.bool true) ∧ Below W.heap.size W w' := by
  have A := hide (fun w' => bawake_any hR hO w')
  have KR := hide hR
  have KQ := hide hq
  have K0 := hide (New_any p n0 c0 W hnc (fun h => by obtain ⟨b, off, e, _⟩ := hr h; exact ⟨_, e⟩))
  clear hR hO hq
  go_enter Try.func4, Try.ntmps4
  go_wp2_with fail
  refine K0.out.mono ?_
  rintro e w1 ⟨sb, m, c', rfl, G1, hsb, ⟨hm1, hm2⟩, B1⟩
  have S1 : Hid (SR (base0 W) w1 sb p m c' f) := ⟨base0_grew G1.1, hsb, fun h0 => by
    obtain ⟨b, off, e, hc⟩ := hr (by omega)
    exact ⟨b, off, e, fun k hk => hc k (by omega)⟩, hm2, hf, 0, Nat.zero_le _, B1⟩
  have hsb1 : Hid (sb < w1.heap.size) := B1.lt
  clear B1 K0 hr hnc G1 hsb
  have K1 := hide (elements_any (base0 W) w1 sb m c' p f S1.out)
  go_wp2_with fail
  refine K1.out.mono ?_
  rintro e w2 ⟨v, n, x, rfl, hn, hx, hown, -, S2⟩
  obtain ⟨q2, cap, rfl, hrow⟩ := own_frow hown
  have F2 : Hid (0 < n → ∃ b, q2 = some ⟨b, 0, none⟩ ∧ sb < b ∧ FRow w2 b n 5 36 (fxC x)) := fun h => by
    obtain ⟨b, e, hb, hF⟩ := hrow h
    exact ⟨b, e, Nat.lt_of_lt_of_le hsb1.out hb, hF⟩
  have HX := hide hx
  have S2 := hide S2
  clear K1 S1 hown hm1 hm2 hx hsb1 hrow
  go_wp2_with fail
  go_loopg [5] 7 (fun g1 vk wr => ∃ i : Nat, vk = .int .i64 (i : Int) ∧ i ≤ 6 ∧ 6 - i < g1 ∧ Hid (SR (base0 W) wr sb p m c' f) ∧ Hid (0 < n → ∃ b, q2 = some ⟨b, 0, none⟩ ∧ sb < b ∧ FRow wr b n 5 36 (fxC x)))
  case atStart => exact ⟨0, by go_num, by omega, by omega, S2, F2⟩
  case round =>
    clear S2 F2
    obtain ⟨wo, rfl⟩ : ∃ wo : World, wo = wr := ⟨_, rfl⟩
    obtain ⟨i, rfl, hi, hg, S, F⟩ := hrel
    by_cases hlt : i < 6
    · have hltz : (i : Int) < 6 := by omega
      go_wp2_with fail
      refine MJ.wp_region_free (fun w => But sb wo w ∧ SR (base0 W) w sb p m c' f) (R2 sb) [0, 2, 3, 4, 6, 7, 8] [(20, 0), (22, 2), (23, 3), (24, 4), (26, 6), (6, 7), (7, 8)] (by kernel_rfl) (by kernel_rfl) (by simp) ?h0 ?_
      case h0 => exact ⟨(But.refl sb wo).drew, S.out.grew ((Grew.refl wo).drew)⟩
      refine MJ.lex_free (by rfl) rfl ?_ ?_
      · rintro vs w ⟨hB, hS⟩ _
        have hne : w.heap.size ≠ sb := by obtain ⟨t, _, k⟩ := hS.src; have := k.lt; omega
        have FIN : Hid ((But sb wo (w.alloc (.cells avL.toArray 3)) ∧ SR (base0 W) (w.alloc (.cells avL.toArray 3)) sb p m c' f) ∧ R2 sb 0 (.slice (some ⟨w.heap.size, 0, none⟩) 7 7) (w.alloc (.cells avL.toArray 3)) ∧ MJ.Stays (R2 sb) w (w.alloc (.cells avL.toArray 3))) :=
          ⟨⟨hB.alloc _, hS.grew ((Grew.refl w).alloc _)⟩, ⟨_, rfl, hne, Blk.new rfl⟩, fun b u h => h.but ((But.refl sb w).alloc _)⟩
        clear hB hS
        simp [go_sem, evS, List.lookup]
        exact FIN.out
      repeat (first | (refine MJ.lex_skip rfl (by rfl) ?_) | (refine MJ.lex_calm rfl (by rfl) (fun K hK => ?_); apply Exists.intro; refine ⟨fun W hW => ?_, ?_⟩; (dsimp only at hW; go_simp; exact rfl); go_simp; refine hK _ ?_; clear hK K))
      refine MJ.lex_free (by rfl) rfl ?_ ?_
      · rintro vs w ⟨hB, hS⟩ _
        have KN := hide (N_any (base0 W) w sb m c' p f 7 hS (by decide) (by decide))
        have hB := hide hB
        clear hS
        simp [go_sem, evS, List.lookup]
        refine KN.out.mono ?_
        rintro e w' ⟨z, rfl, hz', q, SS⟩
        exact ⟨_, rfl, ⟨hB.out.trans q, SS⟩, ⟨z, hz', rfl⟩, fun b u h => h.but q⟩
      refine MJ.lex_free (by rfl) rfl ?_ ?_
      · rintro vs w ⟨hB, hS⟩ hR
        obtain ⟨b, e0, hne, hb⟩ := hR 0 (by simp) (by kernel_rfl)
        obtain ⟨z, hz', e2⟩ := hR 2 (by simp) (by kernel_rfl)
        replace e0 : vs 0 = .slice (some ⟨b, 0, none⟩) 7 7 := e0
        replace e2 : vs 2 = .int .i64 z := e2
        obtain ⟨k0, rfl⟩ : ∃ k0 : Nat, z = (k0 : Int) := ⟨z.toNat, by omega⟩
        have hk7 : k0 < 7 := by omega
        have hz1 : (k0 : Int) < 7 := by omega
        have hz0 : (0 : Int) ≤ (k0 : Int) := by omega
        have FIN : Hid ((But sb wo w ∧ SR (base0 W) w sb p m c' f) ∧ R2 sb 3 (.pointer (some ⟨b, k0, none⟩)) w ∧ MJ.Stays (R2 sb) w w) := ⟨⟨hB, hS⟩, ⟨b, k0, hk7, rfl, hne, hb⟩, fun _ _ h => h⟩
        clear hR hB hS hb hz'
        simp [go_sem, evS, List.lookup, e0, e2, hz1, hz0]
        exact FIN.out
      refine MJ.lex_free (by rfl) rfl ?_ ?_
      · rintro vs w ⟨hB, hS⟩ hR
        obtain ⟨b, k0, hk7, e3, hne, hb⟩ := hR 3 (by simp) (by kernel_rfl)
        replace e3 : vs 3 = .pointer (some ⟨b, k0, none⟩) := e3
        have ck : w.cell? ⟨b, k0, none⟩ = some (.int .i64 (avF k0)) := hb.cell k0 (av_at hk7)
        have FIN : Hid ((But sb wo w ∧ SR (base0 W) w sb p m c' f) ∧ R2 sb 4 (.int .i64 (avF k0)) w ∧ MJ.Stays (R2 sb) w w) := ⟨⟨hB, hS⟩, ⟨_, av_bd k0, rfl⟩, fun _ _ h => h⟩
        clear hR hB hS hb
        simp [go_sem, evS, List.lookup, e3, ck]
        exact FIN.out
      repeat (first | (refine MJ.lex_skip rfl (by rfl) ?_) | (refine MJ.lex_calm rfl (by rfl) (fun K hK => ?_); apply Exists.intro; refine ⟨fun W hW => ?_, ?_⟩; (dsimp only at hW; go_simp; exact rfl); go_simp; refine hK _ ?_; clear hK K))
      refine MJ.lex_free (by rfl) rfl ?_ ?_
      · rintro vs w ⟨hB, hS⟩ _
        have KN := hide (N_any (base0 W) w sb m c' p f 12 hS (by decide) (by decide))
        have hB := hide hB
        clear hS
        simp [go_sem, evS, List.lookup]
        refine KN.out.mono ?_
        rintro e w' ⟨z, rfl, hz', q, SS⟩
        exact ⟨_, rfl, ⟨hB.out.trans q, SS⟩, ⟨z, hz', rfl⟩, fun b u h => h.but q⟩
      refine MJ.lex_free (by rfl) rfl ?_ ?_
      · rintro vs w ⟨hB, hS⟩ hR
        obtain ⟨y, hy, e4⟩ := hR 4 (by simp) (by kernel_rfl)
        replace e4 : vs 4 = .int .i64 y := e4
        have FIN : Hid ((But sb wo w ∧ SR (base0 W) w sb p m c' f) ∧ R2 sb 7 (.int .i64 y) w ∧ MJ.Stays (R2 sb) w w) := ⟨⟨hB, hS⟩, ⟨y, hy, rfl⟩, fun _ _ h => h⟩
        clear hR hB hS
        simp [go_sem, evS, List.lookup, e4]
        exact FIN.out
      refine MJ.lex_free (by rfl) rfl ?_ ?_
      · rintro vs w ⟨hB, hS⟩ hR
        obtain ⟨y, hy, e6⟩ := hR 6 (by simp) (by kernel_rfl)
        replace e6 : vs 6 = .int .i64 y := e6
        have FIN : Hid ((But sb wo w ∧ SR (base0 W) w sb p m c' f) ∧ R2 sb 8 (.int .i64 y) w ∧ MJ.Stays (R2 sb) w w) := ⟨⟨hB, hS⟩, ⟨y, hy, rfl⟩, fun _ _ h => h⟩
        clear hR hB hS
        simp [go_sem, evS, List.lookup, e6]
        exact FIN.out
      refine MJ.lex_nil ?_
      rintro vs w3 ⟨hB, hS⟩ hR
      obtain ⟨av, hav, e7⟩ := hR 7 (by simp)
      obtain ⟨gap, hgap, e8⟩ := hR 8 (by simp)
      replace e7 : vs 7 = .int .i64 av := e7
      replace e8 : vs 8 = .int .i64 gap := e8
      have F3 : Hid (0 < n → ∃ b, q2 = some ⟨b, 0, none⟩ ∧ sb < b ∧ FRow w3 b n 5 36 (fxC x)) := fun h => by
        obtain ⟨b, e, hb, hF⟩ := F.out h
        exact ⟨b, e, hb, hF.but hB (Nat.ne_of_gt hb)⟩
      have hs : SRow w3 q2 n 5 (fxC x) := fun h => by
        obtain ⟨b, rfl, _, hF⟩ := F3.out h
        exact hF.srow h
      have e0 : erR av gap x n = 0 := er_ok (by omega) (by omega) (by omega) HX.out
      have H1 := KR.out av gap q2 n cap x w3 hs (by omega)
      have H2 := fun w' (h : Below w3.heap.size w3 w') => KQ.out av gap q2 n cap x w' (hs.below h) (by omega)
      simp only [e0, if_true, eq_self_iff_true] at H1 H2
      replace H1 := hide H1
      replace H2 := hide H2
      have hS := hide hS
      clear hB hR hs e0 S F
      simp only [fillS, List.foldl_cons, List.foldl_nil, e7, e8]
      clear e7 e8
      go_wp2_with fail
      refine H1.out.mono ?_
      rintro e w4 ⟨q4, d4, rfl, R4, B4⟩
      have K2 := hide (H2.out w4 B4)
      have R4 := hide R4
      have B4 := hide B4
      clear H1 H2
      go_wp2_with fail
      refine K2.out.mono ?_
      rintro e w5 ⟨q5, d5, rfl, R5, h⟩
      have R4' := hide (R4.out.below h)
      have B5 : Hid (Below w3.heap.size w3 w5) := B4.out.trans (h.mono B4.out.size)
      have E := hide (equal_yes q4 q5 n d4 d5 _ w5 (by omega) R4'.out R5)
      clear h R5 R4 R4' K2 B4
      go_wp2_with fail
      refine E.out.mono ?_
      rintro e w6 ⟨rfl, hd⟩
      have B6 := hide (below_drawn B5.out hd)
      have sbl : sb < w3.heap.size := by obtain ⟨t, _, k⟩ := hS.out.src; exact k.lt
      have S6 : Hid (SR (base0 W) w6 sb p m c' f) := hS.out.same (base0_grew ((base0_below hS.out.g).trans (B6.out.mono (base0_below hS.out.g).size))) (B6.out.block sb sbl)
      have F6 : Hid (0 < n → ∃ b, q2 = some ⟨b, 0, none⟩ ∧ sb < b ∧ FRow w6 b n 5 36 (fxC x)) := fun h => by
        obtain ⟨b, e, hb, hF⟩ := F3.out h
        exact ⟨b, e, hb, hF.below B6.out hF.lt⟩
      clear hd E B5 B6 F3 hS sbl
      go_wp2_with fail
      go_roundg (6 - i)
      case measure => exact hg
      case rel => exact ⟨i + 1, by go_num, hlt, Nat.sub_lt_sub_left hlt (Nat.lt_succ_self i), S6, F6⟩
    · have hltz : ¬ (i : Int) < 6 := by omega
      have B : Hid (Below W.heap.size W wo) := base0_below S.out.g
      clear S F
      go_wp2_with fail
      refine (A.out wo).mono ?_
      rintro e wz ⟨rfl, h⟩
      have BZ : Hid (Below W.heap.size W wz) := B.out.trans (h.mono B.out.size)
      clear h B
      go_wp2_with fail
      go_ret
      exact ⟨rfl, BZ.out⟩
end Go.Proofs.Ytjaapdkhjgolfaa
