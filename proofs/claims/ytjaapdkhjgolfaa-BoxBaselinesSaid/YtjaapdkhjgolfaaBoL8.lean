/- What the law BoxBaselines runs, where Baseline and its reference (and, for the sanity check, Resolve and Offsets) answer as the chapter asks; no other condition. -/
import Derived.Test.YtjaapdkhjgolfaaBoAx
import Derived.BigQuiet
namespace Go.Proofs.Ytjaapdkhjgolfaa
open Go.RowKit Go.Sort
set_option linter.unusedVariables false
set_option linter.unusedSimpArgs false

theorem bs_some {n m : Nat} {f g : Nat → Int} {k : Nat} (h : k < bsN n m f g) : basOk n m f g ∧ bsN n m f g = n ∧ bsH n m f g = maxF (fun i => maxF g n - g i + f i) n := by
  unfold bsN bsH at *
  by_cases e : basOk n m f g
  · simp only [if_pos e] at h ⊢; exact ⟨e, by first | rfl | trivial, by first | rfl | trivial⟩
  · rw [if_neg e] at h; omega
theorem bs_le {n m : Nat} {f g : Nat → Int} : bsN n m f g ≤ 100 := by
  unfold bsN
  by_cases e : basOk n m f g
  · rw [if_pos e]; exact e.2.1
  · rw [if_neg e]; omega
set_option maxHeartbeats 10000000 in
theorem bas_core (hR : KRes 11) (hO : KOff 20) (hB : KBas 24) (hb : KBas 25)
    (p q : Option Addr) (n m c d : Nat) (f g : Nat → Int) (W : World) (H1 : Reads W p n f) (H2 : Reads W q m g) (hn : n ≤ 9223372036854775807) (hm : m ≤ 9223372036854775807) :
    Calls Try.prog 10 #[.slice p n c, .slice q m d] W fun e w' => e = .returned (.bool true) ∧ Below W.heap.size W w' := by
  by_cases h1 : 120 < n
  · clear hR hO hB hb H1 H2
    have hz : (120 : Int) < (n : Int) := by omega
    have dz : decide ((120 : Int) < (n : Int)) = true := decide_eq_true hz
    go_enter Try.func10, Try.ntmps10
    go_wp2_with fail
    go_ret
    exact ⟨rfl, Below.refl _ _⟩
  have hz : ¬ (120 : Int) < (n : Int) := by omega
  have dz : decide ((120 : Int) < (n : Int)) = false := decide_eq_false hz
  by_cases h2 : 120 < m
  · clear hR hO hB hb H1 H2
    have hy : (120 : Int) < (m : Int) := by omega
    have dy : decide ((120 : Int) < (m : Int)) = true := decide_eq_true hy
    go_enter Try.func10, Try.ntmps10
    go_wp2_with fail
    go_ret
    exact ⟨rfl, Below.refl _ _⟩
  have hy : ¬ (120 : Int) < (m : Int) := by omega
  have dy : decide ((120 : Int) < (m : Int)) = false := decide_eq_false hy
  have K1 := hide (hB p q n m c d f g W H1 H2 (by omega) (by omega))
  have K2 := hide (fun w' (h : Below W.heap.size W w') => hb p q n m c d f g w' (H1.below h) (H2.below h) (by omega) (by omega))
  have A := hide (fun w' => bawake_any hR hO w')
  have S := hide (fun k (h : k < bsN n m f g) => bs_some h)
  have hl : bsN n m f g ≤ 100 := bs_le
  replace H1 := hide H1
  replace H2 := hide H2
  generalize bsN n m f g = l at *
  generalize bsH n m f g = H at *
  clear hR hO hB hb h1 h2
  go_enter Try.func10, Try.ntmps10
  go_wp2_with fail
  refine K1.out.mono ?_
  rintro e w1 ⟨q1, d1, rfl, R1, B1⟩
  have K3 := hide (K2.out w1 B1)
  replace R1 := hide R1
  replace B1 := hide B1
  clear K1 K2
  go_wp2_with fail
  refine K3.out.mono ?_
  rintro e w2 ⟨q2, d2, rfl, R2, B2⟩
  have R3 : Hid (Reads w2 q1 l (fun i => maxF g n - g i)) := R1.out.below B2
  have B3 : Hid (Below W.heap.size W w2) := B1.out.trans (B2.mono B1.out.size)
  have E := hide (equal_yes q1 q2 l d1 d2 _ w2 (by omega) R3.out R2)
  clear R1 B1 R2 B2 K3
  go_wp2_with fail
  refine E.out.mono ?_
  rintro e w3 ⟨rfl, hd⟩
  have B4 := hide (below_drawn B3.out hd)
  have R4 : Hid (Reads w3 q1 l (fun i => maxF g n - g i)) := by obtain ⟨k, rfl⟩ := hd; exact R3.out
  clear E hd B3 R3
  go_wp2_with fail
  go_loopg [9] (l + 1) (fun g1 vk wr => ∃ k : Nat, vk = .int .i64 (k : Int) ∧ k ≤ l ∧ l - k < g1 ∧ Hid (Below W.heap.size W wr) ∧ Hid (Reads wr q1 l (fun i => maxF g n - g i)))
  case atStart => exact ⟨0, by go_num, by omega, by omega, B4, R4⟩
  case round =>
    clear B4 R4
    obtain ⟨wo, rfl⟩ : ∃ wo : World, wo = wr := ⟨_, rfl⟩
    obtain ⟨k, rfl, hk, hg, B, R⟩ := hrel
    by_cases hlt : k < l
    · have hltz : (k : Int) < (l : Int) := by omega
      obtain ⟨ok, el, eH⟩ := S.out k hlt
      obtain ⟨e1, e2, e3⟩ := ok
      subst e1
      subst el
      have v0 := e3 0 (by omega)
      have vk := e3 k hlt
      have xg := maxF_ge (f := g) hlt
      have x0 := maxF_ge (f := g) (n := l) (i := 0) (by omega)
      have xb := (maxF_bd (f := g) (B := 1048576) (by omega) (n := l) fun i hi => (e3 i hi).2.2)
      have xh := maxF_ge (f := fun i => maxF g l - g i + f i) hlt
      rw [← eH] at xh
      have xh : maxF g l - g k + f k ≤ H := xh
      obtain ⟨b1, o1, rfl, hb1⟩ := R.out (by omega)
      obtain ⟨b2, o2, rfl, hb2⟩ := (H2.out.below B.out) (by omega)
      obtain ⟨b3, o3, rfl, hb3⟩ := (H1.out.below B.out) (by omega)
      have c1 : wo.cell? ⟨b1, o1 + k, none⟩ = some (.int .i64 (maxF g l - g k)) := hb1 k hlt
      have c2 : wo.cell? ⟨b2, o2 + k, none⟩ = some (.int .i64 (g k)) := hb2 k hlt
      have c3 : wo.cell? ⟨b1, o1, none⟩ = some (.int .i64 (maxF g l - g 0)) := hb1 0 (by omega)
      have c4 : wo.cell? ⟨b2, o2, none⟩ = some (.int .i64 (g 0)) := hb2 0 (by omega)
      have c5 : wo.cell? ⟨b3, o3 + k, none⟩ = some (.int .i64 (f k)) := hb3 k hlt
      clear hb1 hb2 hb3 eH e3 S
      have hs : (maxF g l - g k) + g k = (maxF g l - g 0) + g 0 := by omega
      have y1 : 0 ≤ maxF g l - g k := by omega
      have y2 : maxF g l - g k ≤ 1048576 := by omega
      have y3 : 0 ≤ maxF g l - g 0 := by omega
      have y4 : maxF g l - g 0 ≤ 1048576 := by omega
      generalize maxF g l - g k = xk at *
      generalize maxF g l - g 0 = xz at *
      generalize g k = gk at *
      generalize g 0 = gz at *
      generalize f k = fk at *
      have s1 : (xk + gk == xz + gz) = true := by simpa using hs
      have t1 : ¬ xk < 0 := by omega
      have t2 : decide (xk < 0) = false := decide_eq_false t1
      have t3 : ¬ H < xk + fk := by omega
      have t4 : decide (H < xk + fk) = false := decide_eq_false t3
      have w1 : IntKind.i64.wrap (xk + gk) = xk + gk := wr (by omega) (by omega)
      have w2 : IntKind.i64.wrap (xz + gz) = xz + gz := wr (by omega) (by omega)
      have w3 : IntKind.i64.wrap (xk + fk) = xk + fk := wr (by omega) (by omega)
      have hl0 : (0 : Int) < (l : Int) := by omega
      go_wp2_with fail
      go_quiet (fail)
      have NB : Hid (Below W.heap.size W (wo.drewN nq)) := ⟨B.out.os, B.out.tape, B.out.output, B.out.size, B.out.block⟩
      have NR : Hid (Reads (wo.drewN nq) (some ⟨b1, o1, none⟩) l (fun i => maxF g l - g i)) := R.out
      clear B R c1 c2 c3 c4 c5
      generalize wo.drewN nq = w5 at *
      go_wp2_with fail
      go_roundg (l - k)
      case measure => omega
      case rel => exact ⟨k + 1, by go_num, by omega, by omega, NB, NR⟩
    · have hltz : ¬ (k : Int) < (l : Int) := by omega
      clear R S
      go_wp2_with fail
      refine (A.out wo).mono ?_
      rintro e w4 ⟨rfl, h⟩
      have B5 : Hid (Below W.heap.size W w4) := B.out.trans (h.mono B.out.size)
      clear h B
      go_wp2_with fail
      go_ret
      exact ⟨rfl, B5.out⟩
end Go.Proofs.Ytjaapdkhjgolfaa
