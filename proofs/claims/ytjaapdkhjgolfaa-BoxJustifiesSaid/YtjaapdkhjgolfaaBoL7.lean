/- What the law BoxJustifies runs, where Offsets and Align (and, for the sanity check, Resolve) answer as the chapter asks; no other condition. -/
import Derived.Test.YtjaapdkhjgolfaaBoAx
import Derived.Test.YtjaapdkhjgolfaaBitM
import Derived.Test.YtjaapdkhjgolfaaBitM2
import Derived.BigQuiet
namespace Go.Proofs.Ytjaapdkhjgolfaa
open Go.RowKit Go.Sort
set_option linter.unusedVariables false
set_option linter.unusedSimpArgs false

theorem pos_bdJ {av gap ju : Int} {n : Nat} {f : Nat → Int} (hn : n ≤ 100) (h : ofOk av gap ju n f) {i : Nat} (hi : i < n) : -209715200 ≤ ofF av gap ju n f false i ∧ ofF av gap ju n f false i ≤ 500000000 := by
  have := pos_bd hn h i hi
  unfold ofF
  simp only [Bool.false_eq_true, if_false]
  omega
set_option maxRecDepth 100000 in
set_option maxHeartbeats 20000000 in
theorem jus_core (hR : KRes 11) (hO : KOff 20) (ex : Int) (p : Option Addr) (n c : Nat) (f : Nat → Int) (W : World) (H : Reads W p n f) (hn : n ≤ 9223372036854775807) :
    Calls Try.prog 9 #[.int .i64 ex, .slice p n c] W fun e w' => e = .returned (.bool true) ∧ Below W.heap.size W w' := by
  by_cases h1 : n < 2
  · clear hR hO H
    have hz : (n : Int) < (2 : Int) := by omega
    have dz : decide ((n : Int) < (2 : Int)) = true := decide_eq_true hz
    go_enter Try.func9, Try.ntmps9
    go_wp2_with fail
    go_ret
    exact ⟨rfl, Below.refl _ _⟩
  have hz : ¬ (n : Int) < (2 : Int) := by omega
  have dz : decide ((n : Int) < (2 : Int)) = false := decide_eq_false hz
  by_cases h2 : 50 < n
  · clear hR hO H
    have hy : (50 : Int) < (n : Int) := by omega
    have dy : decide ((50 : Int) < (n : Int)) = true := decide_eq_true hy
    go_enter Try.func9, Try.ntmps9
    go_wp2_with fail
    go_ret
    exact ⟨rfl, Below.refl _ _⟩
  have hy : ¬ (50 : Int) < (n : Int) := by omega
  have dy : decide ((50 : Int) < (n : Int)) = false := decide_eq_false hy
  have A := hide (fun w' => bawake_any hR hO w')
  have sb := sumF_bound (f := fun j => f j % 128) (B := 127) n (fun j _ => by omega)
  have hex : 0 ≤ ex % 1024 ∧ ex % 1024 ≤ 1023 := by omega
  have hav : 0 ≤ sumF (fun j => f j % 128) n + 1 + ex % 1024 ∧ sumF (fun j => f j % 128) n + 1 + ex % 1024 ≤ 1048576 := by omega
  have hok : ofOk (sumF (fun j => f j % 128) n + 1 + ex % 1024) 0 3 n (fun j => f j % 128) := ⟨hav, by omega, by omega, fun i hi => by dsimp only; omega⟩
  have hob : ofB (sumF (fun j => f j % 128) n + 1 + ex % 1024) 0 3 n (fun j => f j % 128) = true := (ofB_iff _ _ _ _ _).2 ⟨by omega, hok⟩
  have hf : 0 < freO (sumF (fun j => f j % 128) n + 1 + ex % 1024) 0 n (fun j => f j % 128) := by
    unfold freO spcF
    rw [if_neg (by omega), Int.zero_mul]
    omega
  have K1 := hide (fun (w' : World) (h : Reads w' (some ⟨W.heap.size, 0, none⟩) n (fun j => f j % 128)) => hO (sumF (fun j => f j % 128) n + 1 + ex % 1024) 0 3 (some ⟨W.heap.size, 0, none⟩) n n (fun j => f j % 128) false w' h (by omega))
  have EN := hide (between_ends hf (by omega))
  have GP := hide (between_gaps hf (by omega))
  have PB := hide (fun i hi => pos_bdJ (i := i) (by omega) hok hi)
  have w0 : IntKind.i64.wrap (sumF (fun j => f j % 128) n + 1) = sumF (fun j => f j % 128) n + 1 := wr (by omega) (by omega)
  have w1 : IntKind.i64.wrap (sumF (fun j => f j % 128) n + 1 + ex % 1024) = sumF (fun j => f j % 128) n + 1 + ex % 1024 := wr (by omega) (by omega)
  simp only [hob, if_true, eq_self_iff_true] at K1
  have H := hide H
  replace w0 := hide w0
  replace w1 := hide w1
  replace hav := hide hav
  clear hR hO hob hok hf sb hex
  have hmk : ∀ W' : World, (Instr.makeSlice 23 (.int .i64 (n : Int)) (.int .i64 (n : Int))).run Try.prog W' = .ok (.slice (some ⟨W'.heap.size, 0, none⟩) n n) (W'.alloc (.cells (ints n (fun _ => 0)) 3)) := make_ints n (by omega)
  have B2 : Hid (Below W.heap.size W (W.alloc (.cells (ints n fun _ => 0) 3))) := (Below.refl _ _).alloc (Nat.le_refl _) _
  have R2 : Hid (IRow (W.alloc (.cells (ints n fun _ => 0) 3)) W.heap.size n (fun j => if j < 0 then f j % 128 else 0)) := IRow.new W n _
  go_enter Try.func9, Try.ntmps9
  go_wp2_with fail
  clear hmk
  generalize W.alloc (.cells (ints n fun _ => 0) 3) = w2 at *
  go_loopg [6, 7] (n + 1) (fun g1 va vk wr => ∃ k : Nat, va = .int .i64 (sumF (fun j => f j % 128) k) ∧ vk = .int .i64 (k : Int) ∧ k ≤ n ∧ n - k < g1 ∧ Hid (Below W.heap.size W wr) ∧ Hid (IRow wr W.heap.size n (fun j => if j < k then f j % 128 else 0)))
  case atStart => exact ⟨0, rfl, by go_num, by omega, by omega, B2, R2⟩
  case round =>
    clear B2 R2
    obtain ⟨wo, rfl⟩ : ∃ wo : World, wo = wr := ⟨_, rfl⟩
    obtain ⟨k, rfl, rfl, hk, hg, B, R⟩ := hrel
    by_cases hlt : k < n
    · have hltz : (k : Int) < (n : Int) := by omega
      obtain ⟨b, off, rfl, hb⟩ := (H.out.below B.out) (by omega)
      have c1 : wo.cell? ⟨b, off + k, none⟩ = some (.int .i64 (f k)) := hb k hlt
      have fz : wo.frozen? ⟨W.heap.size, k, none⟩ = false := R.out.frozen k
      have fc : wo.cell? ⟨W.heap.size, k, none⟩ = some (.int .i64 0) := by have q := R.out.cell hlt; simp at q; exact q
      have NB : Hid (Below W.heap.size W (wo.setCell ⟨W.heap.size, k, none⟩ (.int .i64 (f k % 128)))) := B.out.setCell (Nat.le_refl _) _
      have NR : Hid (IRow (wo.setCell ⟨W.heap.size, k, none⟩ (.int .i64 (f k % 128))) W.heap.size n (fun j => if j < k + 1 then f j % 128 else 0)) := by
        refine (R.out.set_ k _).congr fun j hj => ?_
        by_cases h1 : j = k
        · subst h1; simp
        · by_cases h2 : j < k
          · simp [h1, h2, show j < k + 1 by omega]
          · simp [h1, h2, show ¬ j < k + 1 by omega]
      clear hb R B
      have sb := sumF_bound (f := fun j => f j % 128) (B := 127) k (fun j _ => by omega)
      obtain ⟨sb1, sb2⟩ := sb
      have es : sumF (fun j => f j % 128) (k + 1) = sumF (fun j => f j % 128) k + f k % 128 := rfl
      replace es := hide es
      generalize sumF (fun j => f j % 128) k = sk at *
      have fk1 : 0 ≤ f k % 128 ∧ f k % 128 < 128 := by omega
      have nc : (wo.setCell ⟨W.heap.size, k, none⟩ (.int .i64 (f k % 128))).cell? ⟨W.heap.size, k, none⟩ = some (.int .i64 (f k % 128)) := by have q := NR.out.cell hlt; simp at q; exact q
      have ws : IntKind.i64.wrap (sk + f k % 128) = sk + f k % 128 := wr (by omega) (by omega)
      go_wp2_with fail
      generalize wo.setCell ⟨W.heap.size, k, none⟩ (.int .i64 (f k % 128)) = w3 at *
      go_roundg (n - k)
      case measure => omega
      case rel => exact ⟨k + 1, by rw [es.out], by go_num, by omega, by omega, NB, NR⟩
    · have hltz : ¬ (k : Int) < (n : Int) := by omega
      obtain rfl : n = k := by omega
      have R3 : IRow wo W.heap.size n (fun j => f j % 128) := R.out.congr fun j hj => by simp [hj]
      have R5 : Hid (Reads wo (some ⟨W.heap.size, 0, none⟩) n (fun j => f j % 128)) := R3.reads
      clear R R3 hk hg hlt
      have w0 := w0.out
      have w1 := w1.out
      obtain ⟨hv1, hv2⟩ := hav.out
      clear hav
      go_wp2_with fail
      clear w0
      generalize sumF (fun j => f j % 128) n + 1 + ex % 1024 = av at *
      clear w1
      refine (K1.out wo R5.out).mono ?_
      rintro e w4 ⟨q1, d1, rfl, Ra, h⟩
      have B4 : Hid (Below W.heap.size W w4) := B.out.trans (h.mono B.out.size)
      have R6 : Hid (Reads w4 (some ⟨W.heap.size, 0, none⟩) n (fun j => f j % 128)) := R5.out.below h
      replace Ra := hide Ra
      clear h B R5 K1
      obtain ⟨g, hg0, GG⟩ := GP.out
      replace GG := hide GG
      obtain ⟨e0, e1⟩ := EN.out
      clear GP EN
      obtain ⟨m, rfl⟩ : ∃ m, n = m + 1 := ⟨n - 1, by omega⟩
      have e1 : ofF av 0 3 (m + 1) (fun j => f j % 128) false m + f m % 128 = av := e1
      obtain ⟨b1, o1, rfl, r1⟩ := Ra.out (by omega)
      obtain ⟨b3, o3, e3, r3⟩ := R6.out (by omega)
      cases e3
      have c0 : w4.cell? ⟨b1, o1, none⟩ = some (.int .i64 (ofF av 0 3 (m + 1) (fun j => f j % 128) false 0)) := r1 0 (by omega)
      have c1 : w4.cell? ⟨b1, o1 + m, none⟩ = some (.int .i64 (ofF av 0 3 (m + 1) (fun j => f j % 128) false m)) := r1 m (by omega)
      have c3 : w4.cell? ⟨W.heap.size, m, none⟩ = some (.int .i64 (f m % 128)) := by have q := r3 m (by omega); rwa [Nat.zero_add] at q
      have g0 := (GG.out 0 (by omega)).1
      have p0 := PB.out 0 (by omega)
      have p1 := PB.out 1 (by omega)
      have f0 : 0 ≤ f 0 % 128 := by omega
      have g0 : g ≤ ofF av 0 3 (m + 1) (fun j => f j % 128) false 1 - ofF av 0 3 (m + 1) (fun j => f j % 128) false 0 - f 0 % 128 := g0
      have gb : g ≤ 1073741824 := by omega
      rw [e0] at c0
      have pm := PB.out m (by omega)
      clear g0 p0 p1 f0 e0 r1 r3 dz dy
      have NB : Hid (∀ q, Hid (Below W.heap.size W (w4.drewN q))) := fun q => ⟨B4.out.os, B4.out.tape, B4.out.output, B4.out.size, B4.out.block⟩
      have NR : Hid (∀ q, Hid (Reads (w4.drewN q) (some ⟨W.heap.size, 0, none⟩) (m + 1) (fun j => f j % 128))) := fun q => R6.out
      have NA : Hid (∀ q, Hid (Reads (w4.drewN q) (some ⟨b1, o1, none⟩) (m + 1) (ofF av 0 3 (m + 1) (fun j => f j % 128) false))) := fun q => Ra.out
      clear B4 R6 Ra
      generalize ofF av 0 3 (m + 1) (fun j => f j % 128) false m = xm at *
      have fb : 0 ≤ f m % 128 ∧ f m % 128 < 128 := by omega
      generalize f m % 128 = xf at *
      obtain ⟨fb1, fb2⟩ := fb
      obtain ⟨pm1, pm2⟩ := pm
      have v1 : IntKind.i64.wrap (xm + xf) = xm + xf := wr (by omega) (by omega)
      have wm : IntKind.i64.wrap (m : Int) = (m : Int) := wr (by omega) (by omega)
      have hm0 : (0 : Int) ≤ (m : Int) := by omega
      have hm1 : (m : Int) < (m : Int) + 1 := by omega
      have hm2 : (0 : Int) < (m : Int) + 1 := by omega
      subst e1
      go_wp2_with fail
      go_quiet (fail)
      have NB := NB.out nq
      have NR := NR.out nq
      have NA := NA.out nq
      clear c0 c1 c3 v1
      generalize w4.drewN nq = w5 at *
      go_wp2_with fail
      go_loopg [10, 11, 12] (m + 1 + 1) (fun g1 va vb vk wr => ∃ (k : Nat) (lo mo : Int), va = .int .i64 lo ∧ vb = .int .i64 mo ∧ vk = .int .i64 ((k : Int) + 1) ∧ k ≤ m ∧ m - k < g1 ∧ (g ≤ lo ∧ lo ≤ 1073741824) ∧ (0 ≤ mo ∧ mo ≤ g + 1) ∧ Hid (Below W.heap.size W wr) ∧ Hid (Reads wr (some ⟨W.heap.size, 0, none⟩) (m + 1) (fun j => f j % 128)) ∧ Hid (Reads wr (some ⟨b1, o1, none⟩) (m + 1) (ofF (xm + xf) 0 3 (m + 1) (fun j => f j % 128) false)))
      case atStart => exact ⟨0, _, _, rfl, rfl, by go_num, by omega, by omega, by omega, by omega, NB, NR, NA⟩
      case round =>
        clear NB NR NA
        obtain ⟨wi, rfl⟩ : ∃ wi : World, wi = wr := ⟨_, rfl⟩
        obtain ⟨k, lo, mo, rfl, rfl, rfl, hk, hgg, ⟨lo1, lo2⟩, ⟨mo1, mo2⟩, B, R, Ra⟩ := hrel
        by_cases hlt : k < m
        · have hltz : (k : Int) + 1 < (m : Int) + 1 := by omega
          have hkm : (k : Int) < (m : Int) + 1 := by omega
          have hk0 : (0 : Int) ≤ (k : Int) := by omega
          have hk1 : (0 : Int) ≤ (k : Int) + 1 := by omega
          have wk : IntKind.i64.wrap (k : Int) = (k : Int) := wr (by omega) (by omega)
          have wk2 : IntKind.i64.wrap ((k : Int) + 1 + 1) = (k : Int) + 1 + 1 := wr (by omega) (by omega)
          obtain ⟨b2, o2, e2, r1⟩ := Ra.out (by omega)
          cases e2
          obtain ⟨b3, o3, e3, r3⟩ := R.out (by omega)
          cases e3
          have c0 : wi.cell? ⟨b1, o1 + (k + 1), none⟩ = some (.int .i64 (ofF (xm + xf) 0 3 (m + 1) (fun j => f j % 128) false (k + 1))) := r1 (k + 1) (by omega)
          have c1 : wi.cell? ⟨b1, o1 + k, none⟩ = some (.int .i64 (ofF (xm + xf) 0 3 (m + 1) (fun j => f j % 128) false k)) := r1 k (by omega)
          have c3 : wi.cell? ⟨W.heap.size, k, none⟩ = some (.int .i64 (f k % 128)) := by have q := r3 k (by omega); rwa [Nat.zero_add] at q
          have ⟨g1, g2⟩ := GG.out k (by omega)
          have g1 : g ≤ ofF (xm + xf) 0 3 (m + 1) (fun j => f j % 128) false (k + 1) - ofF (xm + xf) 0 3 (m + 1) (fun j => f j % 128) false k - f k % 128 := g1
          have g2 : ofF (xm + xf) 0 3 (m + 1) (fun j => f j % 128) false (k + 1) - ofF (xm + xf) 0 3 (m + 1) (fun j => f j % 128) false k - f k % 128 ≤ g + 1 := g2
          have p0 := PB.out k (by omega)
          have p1 := PB.out (k + 1) (by omega)
          have fb : 0 ≤ f k % 128 ∧ f k % 128 < 128 := by omega
          have NB : Hid (∀ q, Hid (Below W.heap.size W (wi.drewN q))) := fun q => ⟨B.out.os, B.out.tape, B.out.output, B.out.size, B.out.block⟩
          have NR : Hid (∀ q, Hid (Reads (wi.drewN q) (some ⟨W.heap.size, 0, none⟩) (m + 1) (fun j => f j % 128))) := fun q => R.out
          have NA : Hid (∀ q, Hid (Reads (wi.drewN q) (some ⟨b1, o1, none⟩) (m + 1) (ofF (xm + xf) 0 3 (m + 1) (fun j => f j % 128) false))) := fun q => Ra.out
          clear B R Ra r1 r3
          generalize ofF (xm + xf) 0 3 (m + 1) (fun j => f j % 128) false (k + 1) = xa at *
          generalize ofF (xm + xf) 0 3 (m + 1) (fun j => f j % 128) false k = ya at *
          generalize f k % 128 = yf at *
          obtain ⟨fk1, fk2⟩ := fb
          obtain ⟨p01, p02⟩ := p0
          obtain ⟨p11, p12⟩ := p1
          have v1 : IntKind.i64.wrap (xa - ya) = xa - ya := wr (by omega) (by omega)
          have v2 : IntKind.i64.wrap (xa - ya - yf) = xa - ya - yf := wr (by omega) (by omega)
          go_wp2_with fail
          go_quiet (fail)
          have NB := NB.out nq
          have NR := NR.out nq
          have NA := NA.out nq
          clear c0 c1 c3 v1 v2
          generalize hx : xa - ya - yf = gx at *
          generalize wi.drewN nq = w6 at *
          go_wp2_with fail
          go_roundg (m - k)
          case measure => omega
          case rel => exact ⟨k + 1, _, _, rfl, rfl, by go_num, by omega, by omega, by omega, by omega, NB, NR, NA⟩
        · have hltz : ¬ (k : Int) + 1 < (m : Int) + 1 := by omega
          have v1 : IntKind.i64.wrap (mo - lo) = mo - lo := wr (by omega) (by omega)
          have v2 : mo - lo ≤ 1 := by omega
          have v3 : decide (mo - lo ≤ 1) = true := decide_eq_true v2
          clear R Ra GG PB
          go_wp2_with fail
          refine (A.out wi).mono ?_
          rintro e wz ⟨rfl, h⟩
          have BZ : Hid (Below W.heap.size W wz) := B.out.trans (h.mono B.out.size)
          clear h B
          go_wp2_with fail
          go_ret
          exact ⟨rfl, BZ.out⟩
end Go.Proofs.Ytjaapdkhjgolfaa
