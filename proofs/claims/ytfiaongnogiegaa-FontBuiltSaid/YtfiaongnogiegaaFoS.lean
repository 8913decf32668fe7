/- What New, N, Raw, Chance, Range, alphabet and Rune of the verifier's reader of numbers do; no condition but that the numbers asked for are small. -/
import Derived.Test.YtfiaongnogiegaaFoB
namespace Go.Proofs.Ytfiaongnogiegaa
open Go.RowKit Go.Sort
set_option linter.unusedVariables false
set_option linter.unusedSimpArgs false

theorem New_any (p : Option Addr) (n c : Nat) (w : World) (hnc : n ≤ c) (hp : 0 < n → ∃ a, p = some a) :
    Calls Try.prog 8 #[.slice p n c] w fun e w' => ∃ sb m c', e = .returned (.pointer (some ⟨sb, 0, none⟩)) ∧ Grew w w' ∧ w.heap.size ≤ sb ∧ (m ≤ n ∧ m ≤ 4000) ∧ Blk w' sb 51 [.slice p m c', .int .i64 0] := by
  by_cases h : n ≤ 4000
  · have hz : ¬ (4000 : Int) < (n : Int) := by omega
    clear hp
    go_enter Try.func8, Try.ntmps8
    go_wp2
    go_ret
    first
      | exact ⟨_, n, c, rfl, (Grew.refl w).alloc _, Nat.le_refl _, ⟨Nat.le_refl _, h⟩, Blk.new rfl⟩
      | exact ⟨_, rfl, (Grew.refl w).alloc _, Nat.le_refl _, n, ⟨Nat.le_refl _, h⟩, c, Blk.new rfl⟩
  · have hz : (4000 : Int) < (n : Int) := by omega
    have hc : (4000 : Int) ≤ (c : Int) := by omega
    obtain ⟨a, rfl⟩ := hp (by omega)
    go_enter Try.func8, Try.ntmps8
    go_wp2
    go_ret
    first
      | exact ⟨_, 4000, _, rfl, (Grew.refl w).alloc _, Nat.le_refl _, ⟨by omega, Nat.le_refl _⟩, Blk.new rfl⟩
      | exact ⟨_, rfl, (Grew.refl w).alloc _, Nat.le_refl _, 4000, ⟨by omega, Nat.le_refl _⟩, _, Blk.new rfl⟩

/-- The reader of numbers at block sb, made behind the world w0; it reads m numbers at p. -/
structure SR (w0 W : World) (sb : Nat) (p : Option Addr) (m c : Nat) (f : Nat → Int) : Prop where
  g : Grew w0 W
  lo : w0.heap.size ≤ sb
  rd : Reads w0 p m f
  hm : m ≤ 4000
  hf : ∀ k, -9223372036854775808 ≤ f k ∧ f k ≤ 9223372036854775807
  src : ∃ t : Nat, t ≤ m ∧ Blk W sb 51 [.slice p m c, .int .i64 (t : Int)]
theorem SR.but {w0 w w' : World} {sb m c : Nat} {p : Option Addr} {f : Nat → Int} {t : Nat} (h : SR w0 w sb p m c f) (b : But sb w w') (ht : t ≤ m) (k : Blk w' sb 51 [.slice p m c, .int .i64 (t : Int)]) : SR w0 w' sb p m c f :=
  ⟨b.grew h.g h.lo, h.lo, h.rd, h.hm, h.hf, t, ht, k⟩
theorem SR.grew {w0 w w' : World} {sb m c : Nat} {p : Option Addr} {f : Nat → Int} (h : SR w0 w sb p m c f) (b : Grew w w') : SR w0 w' sb p m c f := by
  obtain ⟨t, ht, k⟩ := h.src
  exact ⟨h.g.trans b, h.lo, h.rd, h.hm, h.hf, t, ht, k.grew b⟩
/-- Any world that has kept block sb. -/
theorem SR.same {w0 w w' : World} {sb m c : Nat} {p : Option Addr} {f : Nat → Int} (h : SR w0 w sb p m c f) (g : Grew w0 w') (hb : w'.heap[sb]? = w.heap[sb]?) : SR w0 w' sb p m c f := by
  obtain ⟨t, ht, k⟩ := h.src
  exact ⟨g, h.lo, h.rd, h.hm, h.hf, t, ht, hb.trans k⟩

theorem tmod_bd (x n : Int) (hn : 0 < n) : -n < x.tmod n ∧ x.tmod n < n := by
  have h := Int.natAbs_tmod x n
  have h2 : x.natAbs % n.natAbs < n.natAbs := Nat.mod_lt _ (by omega)
  omega

set_option maxRecDepth 100000 in
set_option maxHeartbeats 4000000 in
theorem N_any (w0 w : World) (sb m c : Nat) (p : Option Addr) (f : Nat → Int) (n : Int) (H : SR w0 w sb p m c f) (h1 : 1 ≤ n) (h2 : n ≤ 100000) :
    Calls Try.prog 12 #[.pointer (some ⟨sb, 0, none⟩), .int .i64 n] w fun e w' => ∃ x : Int, e = .returned (.int .i64 x) ∧ (0 ≤ x ∧ x < n) ∧ But sb w w' ∧ SR w0 w' sb p m c f := by
  obtain ⟨t, ht, B⟩ := H.src
  have b0 := B.cell 0 rfl
  have b1 := B.cell 1 rfl
  have f1 := B.free 1
  have hm := H.hm
  by_cases htm : t < m
  · have hz : ¬ (m : Int) ≤ (t : Int) := by omega
    have hz2 : (t : Int) < (m : Int) := by omega
    have h0 : (0 : Int) ≤ (t : Int) := by omega
    have hn1 : ¬ n < 1 := by omega
    have hn0 : ¬ n = 0 := by omega
    have hn0' : (n == 0) = false := by simpa using hn0
    obtain ⟨b, off, rfl, hc⟩ := (H.rd.grew H.g) (by omega)
    have ct := hc t htm
    obtain ⟨m1, m2⟩ := tmod_bd (f t) n (by omega)
    have wt : IntKind.i64.wrap ((f t).tmod n) = (f t).tmod n := wr (by omega) (by omega)
    have wt2 : IntKind.i64.wrap ((f t).tmod n + n) = (f t).tmod n + n := wr (by omega) (by omega)
    have NX : Hid (∀ q : Nat, But sb w ((w.drewN q).setCell ⟨sb, 1, none⟩ (.int .i64 ((t : Int) + 1))) ∧ SR w0 ((w.drewN q).setCell ⟨sb, 1, none⟩ (.int .i64 ((t : Int) + 1))) sb (some ⟨b, off, none⟩) m c f) := fun q => by
      have bb : But sb w ((w.drewN q).setCell ⟨sb, 1, none⟩ (.int .i64 ((t : Int) + 1))) := ((But.refl sb w).drewN q).setCell rfl _
      exact ⟨bb, H.but bb (t := t + 1) (by omega) ((show Blk (w.drewN q) sb _ _ from B).set 1 _)⟩
    have wtt : IntKind.i64.wrap ((t : Int) + 1) = (t : Int) + 1 := wr (by omega) (by omega)
    clear H hc B
    generalize hx : (f t).tmod n = x at *
    go_enter Try.func12, Try.ntmps12
    go_wp2
    go_quiet (fail)
    go_wp2
    go_quiet (fail)
    by_cases hneg : x < 0
    · go_wp2
      go_ret
      exact ⟨x + n, rfl, by omega, (NX.out _).1, (NX.out _).2⟩
    · go_wp2
      go_ret
      exact ⟨x, rfl, by omega, (NX.out _).1, (NX.out _).2⟩
  · have hz : (m : Int) ≤ (t : Int) := by omega
    have NX : Hid (∀ q : Nat, But sb w (w.drewN q) ∧ SR w0 (w.drewN q) sb p m c f) := fun q => ⟨(But.refl sb w).drewN q, H.but ((But.refl sb w).drewN q) ht B⟩
    clear H B
    go_enter Try.func12, Try.ntmps12
    go_wp2
    go_quiet (fail)
    go_wp2
    go_ret
    exact ⟨0, rfl, by omega, (NX.out _).1, (NX.out _).2⟩

set_option maxRecDepth 100000 in
set_option maxHeartbeats 4000000 in
theorem Raw_any (w0 w : World) (sb m c : Nat) (p : Option Addr) (f : Nat → Int) (H : SR w0 w sb p m c f) :
    Calls Try.prog 13 #[.pointer (some ⟨sb, 0, none⟩)] w fun e w' => ∃ x : Int, e = .returned (.int .i64 x) ∧ (-9223372036854775808 ≤ x ∧ x ≤ 9223372036854775807) ∧ But sb w w' ∧ SR w0 w' sb p m c f := by
  obtain ⟨t, ht, B⟩ := H.src
  have b0 := B.cell 0 rfl
  have b1 := B.cell 1 rfl
  have f1 := B.free 1
  have hm := H.hm
  by_cases htm : t < m
  · have hz : ¬ (m : Int) ≤ (t : Int) := by omega
    have hz2 : (t : Int) < (m : Int) := by omega
    have h0 : (0 : Int) ≤ (t : Int) := by omega
    obtain ⟨b, off, rfl, hc⟩ := (H.rd.grew H.g) (by omega)
    have ct := hc t htm
    have hbs : b ≠ sb := by
      obtain ⟨b', off', e, hc'⟩ := H.rd (by omega)
      have e1 : b = b' := by simp at e; exact e.1
      have := lt_of_cell (hc' t htm)
      have := H.lo
      omega
    have hft := H.hf t
    have NX : Hid (∀ q q' : Nat, But sb w (((w.drewN q).setCell ⟨sb, 1, none⟩ (.int .i64 ((t : Int) + 1))).drewN q') ∧ SR w0 (((w.drewN q).setCell ⟨sb, 1, none⟩ (.int .i64 ((t : Int) + 1))).drewN q') sb (some ⟨b, off, none⟩) m c f) := fun q q' => by
      have bb : But sb w (((w.drewN q).setCell ⟨sb, 1, none⟩ (.int .i64 ((t : Int) + 1))).drewN q') := (((But.refl sb w).drewN q).setCell rfl _).drewN q'
      exact ⟨bb, H.but bb (t := t + 1) (by omega) ((show Blk (w.drewN q) sb _ _ from B).set 1 _)⟩
    have wtt : IntKind.i64.wrap ((t : Int) + 1) = (t : Int) + 1 := wr (by omega) (by omega)
    have wt : IntKind.i64.wrap (t : Int) = (t : Int) := wr (by omega) (by omega)
    obtain ⟨x, hx⟩ : ∃ x, x = f t := ⟨_, rfl⟩
    rw [← hx] at ct hft
    have BB := hide B
    have HX := hide hx
    clear H hc B hx
    go_enter Try.func13, Try.ntmps13
    go_wp2
    go_quiet (fail)
    go_wp2
    have B2 := (show Blk (w.drewN nq) sb _ _ from BB.out).set 1 (.int .i64 ((t : Int) + 1))
    have d0 := B2.cell 0 rfl
    have d1 : ((w.drewN nq).setCell ⟨sb, 1, none⟩ (.int .i64 ((t : Int) + 1))).cell? ⟨sb, 1, none⟩ = some (.int .i64 ((t : Int) + 1)) := B2.cell 1 rfl
    have dt : ((w.drewN nq).setCell ⟨sb, 1, none⟩ (.int .i64 ((t : Int) + 1))).cell? ⟨b, off + t, none⟩ = some (.int .i64 x) := by
      have HH : SR w0 ((w.drewN nq).setCell ⟨sb, 1, none⟩ (.int .i64 ((t : Int) + 1))) sb (some ⟨b, off, none⟩) m c f := (NX.out nq 0).2
      obtain ⟨b', off', e, hc'⟩ := (HH.rd.grew HH.g) (by omega)
      simp only [Option.some.injEq, Addr.mk.injEq, and_true] at e
      obtain ⟨rfl, rfl⟩ := e
      rw [HX.out]
      exact hc' t htm
    have NX2 := hide (NX.out nq)
    clear b0 b1 f1 ct B2 BB NX
    generalize ((w.drewN nq).setCell ⟨sb, 1, none⟩ (.int .i64 ((t : Int) + 1))) = w2 at *
    go_quiet (fail)
    go_wp2
    go_ret
    exact ⟨x, rfl, hft, (NX2.out _).1, (NX2.out _).2⟩
  · have hz : (m : Int) ≤ (t : Int) := by omega
    have NX : Hid (∀ q : Nat, But sb w (w.drewN q) ∧ SR w0 (w.drewN q) sb p m c f) := fun q => ⟨(But.refl sb w).drewN q, H.but ((But.refl sb w).drewN q) ht B⟩
    clear H B
    go_enter Try.func13, Try.ntmps13
    go_wp2
    go_quiet (fail)
    go_wp2
    go_ret
    exact ⟨0, rfl, by omega, (NX.out _).1, (NX.out _).2⟩

set_option maxHeartbeats 4000000 in
theorem Chance_any (w0 w : World) (sb m c : Nat) (p : Option Addr) (f : Nat → Int) (n : Int) (H : SR w0 w sb p m c f) (h1 : 1 ≤ n) (h2 : n ≤ 100000) :
    Calls Try.prog 33 #[.pointer (some ⟨sb, 0, none⟩), .int .i64 n] w fun e w' => ∃ x : Bool, e = .returned (.bool x) ∧ But sb w w' ∧ SR w0 w' sb p m c f := by
  have KN := hide (N_any w0 w sb m c p f n H h1 h2)
  have wn : IntKind.i64.wrap (n - 1) = n - 1 := wr (by omega) (by omega)
  clear H
  go_enter Try.func33, Try.ntmps33
  go_wp2_with fail
  refine KN.out.mono ?_
  rintro e w1 ⟨x, rfl, hx, B1, S1⟩
  replace B1 := hide B1
  replace S1 := hide S1
  clear hx
  go_wp2
  go_ret
  exact ⟨_, rfl, B1.out, S1.out⟩

set_option maxHeartbeats 4000000 in
theorem Range_any (w0 w : World) (sb m c : Nat) (p : Option Addr) (f : Nat → Int) (lo hi : Int) (H : SR w0 w sb p m c f) (h0 : -10000 ≤ lo) (h1 : lo ≤ hi) (h2 : hi ≤ 10000) :
    Calls Try.prog 28 #[.pointer (some ⟨sb, 0, none⟩), .int .i64 lo, .int .i64 hi] w fun e w' => ∃ x : Int, e = .returned (.int .i64 x) ∧ (lo ≤ x ∧ x ≤ hi) ∧ But sb w w' ∧ SR w0 w' sb p m c f := by
  have KN := hide (N_any w0 w sb m c p f (hi - lo + 1) H (by omega) (by omega))
  have wn : IntKind.i64.wrap (hi - lo) = hi - lo := wr (by omega) (by omega)
  have wn1 : IntKind.i64.wrap (hi - lo + 1) = hi - lo + 1 := wr (by omega) (by omega)
  clear H
  go_enter Try.func28, Try.ntmps28
  go_wp2_with fail
  refine KN.out.mono ?_
  rintro e w1 ⟨x, rfl, hx, B1, S1⟩
  replace B1 := hide B1
  replace S1 := hide S1
  have wx : IntKind.i64.wrap (lo + x) = lo + x := wr (by omega) (by omega)
  clear KN
  go_wp2
  go_ret
  exact ⟨lo + x, rfl, by omega, B1.out, S1.out⟩
end Go.Proofs.Ytfiaongnogiegaa
