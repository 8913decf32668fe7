/- The reader of numbers and the types that it builds. -/
import Derived.Test.YtnhhmndnmkkhlaaDoorExTc
namespace Go.Proofs.YtnhhmndnmkkhlaaDoor
open Go.RowKit Go.Sort
set_option linter.unusedVariables false
set_option linter.unusedSimpArgs false

theorem Upd.setOwn {b : Nat} {w x : World} (h : Upd b w x) {p : Addr} (v : Value) (hp : w.heap.size ≤ p.block) : Upd b w (x.setCell p v) :=
  ⟨h.os, h.tape, h.output, by simp; exact h.size, fun k hk hn => by rw [heap_setCell_other _ _ _ _ (by omega)]; exact h.blk k hk hn⟩
theorem Upd.alloc {b : Nat} {a x : World} (h : Upd b a x) (o : Obj) : Upd b a (x.alloc o) := h.trans (Upd.of_grew ((Grew.refl x).alloc o))
theorem Upd.drewN {b : Nat} {a x : World} (h : Upd b a x) (n : Nat) : Upd b a (x.drewN n) := ⟨h.os, h.tape, h.output, h.size, h.blk⟩
theorem Upd.setCell {b : Nat} {a x : World} (h : Upd b a x) (j : Nat) (v : Value) : Upd b a (x.setCell ⟨b, j, none⟩ v) := h.trans (Upd.set x j v)
set_option maxHeartbeats 4000000 in
theorem New_any (p : Option Addr) (n c : Nat) (w : World) (hnc : n ≤ c) (hp : 0 < n → ∃ a, p = some a) :
    Calls Tryd.prog 17 #[.slice p n c] w fun e w' => ∃ sb m c', e = .returned (.pointer (some ⟨sb, 0, none⟩)) ∧ Grew w w' ∧ w.heap.size ≤ sb ∧ (m ≤ n ∧ m ≤ 4000) ∧ Blk w' sb 74 [.slice p m c', .int .i64 0] := by
  by_cases h : n ≤ 4000
  · have hz : ¬ (4000 : Int) < (n : Int) := by omega
    clear hp
    go_enter Tryd.func17, Tryd.ntmps17
    go_wp2
    go_ret
    first
      | exact ⟨_, n, c, rfl, (Grew.refl w).alloc _, Nat.le_refl _, ⟨Nat.le_refl _, h⟩, Blk.new rfl⟩
      | exact ⟨_, rfl, (Grew.refl w).alloc _, Nat.le_refl _, n, ⟨Nat.le_refl _, h⟩, c, Blk.new rfl⟩
  · have hz : (4000 : Int) < (n : Int) := by omega
    have hc : (4000 : Int) ≤ (c : Int) := by omega
    obtain ⟨a, rfl⟩ := hp (by omega)
    go_enter Tryd.func17, Tryd.ntmps17
    go_wp2
    go_ret
    first
      | exact ⟨_, 4000, _, rfl, (Grew.refl w).alloc _, Nat.le_refl _, ⟨by omega, Nat.le_refl _⟩, Blk.new rfl⟩
      | exact ⟨_, rfl, (Grew.refl w).alloc _, Nat.le_refl _, 4000, ⟨by omega, Nat.le_refl _⟩, _, Blk.new rfl⟩
/-- The slice at p reads as n integers. -/
def Reads (w : World) (p : Option Addr) (n : Nat) (f : Nat → Int) : Prop := 0 < n → ∃ b off, p = some ⟨b, off, none⟩ ∧ ∀ k, k < n → w.cell? ⟨b, off + k, none⟩ = some (.int .i64 (f k))
theorem lt_of_cell {w : World} {b o : Nat} {v : Value} (h : w.cell? ⟨b, o, none⟩ = some v) : b < w.heap.size := by
  rcases Nat.lt_or_ge b w.heap.size with hl | hl
  · exact hl
  · simp [World.cell?, Array.getElem?_eq_none hl] at h
theorem Reads.grew {w w' : World} {p : Option Addr} {n : Nat} {f : Nat → Int} (h : Reads w p n f) (g : Grew w w') : Reads w' p n f := fun hn => by
  obtain ⟨b, off, hp, hc⟩ := h hn
  exact ⟨b, off, hp, fun k hk => (g.1.cell (p := ⟨b, off + k, none⟩) (lt_of_cell (hc k hk))).trans (hc k hk)⟩
/-- The reader of numbers at block sb, made behind the world w0; it reads m numbers at p. -/
structure SR (w0 W : World) (sb : Nat) (p : Option Addr) (m c : Nat) (f : Nat → Int) : Prop where
  g : Grew w0 W
  lo : w0.heap.size ≤ sb
  rd : Reads w0 p m f
  hm : m ≤ 4000
  hf : ∀ k, -9223372036854775808 ≤ f k ∧ f k ≤ 9223372036854775807
  src : ∃ t : Nat, t ≤ m ∧ Blk W sb 74 [.slice p m c, .int .i64 (t : Int)]
theorem SR.upd {w0 w w' : World} {sb m c : Nat} {p : Option Addr} {f : Nat → Int} {t : Nat} (h : SR w0 w sb p m c f) (b : Upd sb w w') (ht : t ≤ m) (k : Blk w' sb 74 [.slice p m c, .int .i64 (t : Int)]) : SR w0 w' sb p m c f :=
  ⟨b.grew h.g h.lo, h.lo, h.rd, h.hm, h.hf, t, ht, k⟩
theorem SR.grew {w0 w w' : World} {sb m c : Nat} {p : Option Addr} {f : Nat → Int} (h : SR w0 w sb p m c f) (b : Grew w w') : SR w0 w' sb p m c f := by
  obtain ⟨t, ht, k⟩ := h.src
  exact ⟨h.g.trans b, h.lo, h.rd, h.hm, h.hf, t, ht, k.grew b⟩
theorem SR.same {w0 w w' : World} {sb m c : Nat} {p : Option Addr} {f : Nat → Int} (h : SR w0 w sb p m c f) (g : Grew w0 w') (hb : w'.heap[sb]? = w.heap[sb]?) : SR w0 w' sb p m c f := by
  obtain ⟨t, ht, k⟩ := h.src
  exact ⟨g, h.lo, h.rd, h.hm, h.hf, t, ht, hb.trans k⟩
theorem SR.set {w0 w : World} {sb m c : Nat} {p : Option Addr} {f : Nat → Int} (h : SR w0 w sb p m c f) {x : Nat} (hx : w0.heap.size ≤ x) (hne : x ≠ sb) (o : Nat) (u : Value) : SR w0 (w.setCell ⟨x, o, none⟩ u) sb p m c f :=
  h.same (h.g.setCell hx u) (heap_setCell_other w ⟨x, o, none⟩ sb u (fun e => hne e.symm))
theorem SR.alloc {w0 w : World} {sb m c : Nat} {p : Option Addr} {f : Nat → Int} (h : SR w0 w sb p m c f) (o : Obj) : SR w0 (w.alloc o) sb p m c f := h.grew ((Grew.refl w).alloc o)
theorem tmod_bd (x n : Int) (hn : 0 < n) : -n < x.tmod n ∧ x.tmod n < n := by
  have h := Int.natAbs_tmod x n
  have h2 : x.natAbs % n.natAbs < n.natAbs := Nat.mod_lt _ (by omega)
  omega

set_option maxRecDepth 100000 in
set_option maxHeartbeats 4000000 in
theorem N_any (w0 w : World) (sb m c : Nat) (p : Option Addr) (f : Nat → Int) (n : Int) (H : SR w0 w sb p m c f) (h1 : 1 ≤ n) (h2 : n ≤ 100000) :
    Calls Tryd.prog 21 #[.pointer (some ⟨sb, 0, none⟩), .int .i64 n] w fun e w' => ∃ x : Int, e = .returned (.int .i64 x) ∧ (0 ≤ x ∧ x < n) ∧ Upd sb w w' ∧ SR w0 w' sb p m c f := by
  obtain ⟨t, ht, B⟩ := H.src
  have b0 := B.cell 0 rfl
  have b1 := B.cell 1 rfl
  have f1 := B.free 1
  have hm := H.hm
  by_cases htm : t < m
  · have hz : ¬ (m : Int) ≤ (t : Int) := by omega
    have hz2 : (t : Int) < (m : Int) := by omega
    have h0 : (0 : Int) ≤ (t : Int) := by omega
    have hn1 : ¬ n < 1 := by omega
    have hn0 : ¬ n = 0 := by omega
    have hn0' : (n == 0) = false := by simpa using hn0
    obtain ⟨b, off, rfl, hc⟩ := (H.rd.grew H.g) (by omega)
    have ct := hc t htm
    obtain ⟨m1, m2⟩ := tmod_bd (f t) n (by omega)
    have wt : IntKind.i64.wrap ((f t).tmod n) = (f t).tmod n := wr (by omega) (by omega)
    have wt2 : IntKind.i64.wrap ((f t).tmod n + n) = (f t).tmod n + n := wr (by omega) (by omega)
    have NX : Hid (∀ q : Nat, Upd sb w ((w.drewN q).setCell ⟨sb, 1, none⟩ (.int .i64 ((t : Int) + 1))) ∧ SR w0 ((w.drewN q).setCell ⟨sb, 1, none⟩ (.int .i64 ((t : Int) + 1))) sb (some ⟨b, off, none⟩) m c f) := hide fun q => by
      have bb : Upd sb w ((w.drewN q).setCell ⟨sb, 1, none⟩ (.int .i64 ((t : Int) + 1))) := ((Upd.refl sb w).drewN q).setCell 1 _
      exact ⟨bb, H.upd bb (t := t + 1) (by omega) ((show Blk (w.drewN q) sb _ _ from B).set 1 _)⟩
    have wtt : IntKind.i64.wrap ((t : Int) + 1) = (t : Int) + 1 := wr (by omega) (by omega)
    clear H hc B
    generalize hx : (f t).tmod n = x at *
    go_enter Tryd.func21, Tryd.ntmps21
    go_wp2
    go_quiet (fail)
    go_wp2
    go_quiet (fail)
    by_cases hneg : x < 0
    · go_wp2
      go_ret
      exact ⟨x + n, rfl, by omega, (NX.out _).1, (NX.out _).2⟩
    · go_wp2
      go_ret
      exact ⟨x, rfl, by omega, (NX.out _).1, (NX.out _).2⟩
  · have hz : (m : Int) ≤ (t : Int) := by omega
    have NX : Hid (∀ q : Nat, Upd sb w (w.drewN q) ∧ SR w0 (w.drewN q) sb p m c f) := hide fun q => ⟨(Upd.refl sb w).drewN q, H.upd ((Upd.refl sb w).drewN q) ht B⟩
    clear H B
    go_enter Tryd.func21, Tryd.ntmps21
    go_wp2
    go_quiet (fail)
    go_wp2
    go_ret
    exact ⟨0, rfl, by omega, (NX.out _).1, (NX.out _).2⟩
end Go.Proofs.YtnhhmndnmkkhlaaDoor
