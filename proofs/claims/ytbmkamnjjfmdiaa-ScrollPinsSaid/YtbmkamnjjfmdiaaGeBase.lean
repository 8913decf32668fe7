/- Worlds that have grown: what a call leaves that only makes blocks of its own and draws; lemmas for quiet regions whose callees do so; no condition. -/
import Derived.Test.YtbmkamnjjfmdiaaChecked
import Derived.Deep.QuietTactic
import Derived.BigQuiet
import Derived.WalkKit
import Derived.Handy
import Derived.Laws.Rows
import Derived.Shelf.SlSortCmp.QuietGrown
namespace Go.Proofs.Ytbmkamnjjfmdiaa
open Go.RowKit Go.Sort

theorem hide {p : Prop} (h : p) : Hid p := h
theorem ret_int {k : IntKind} {a b : Int} (h : a = b) : Ending.returned (.int k a) = .returned (.int k b) := by rw [h]
theorem wr {x : Int} (h1 : -9223372036854775808 ≤ x) (h2 : x ≤ 9223372036854775807) : IntKind.i64.wrap x = x := by rw [IntKind.wrap_i64]; omega
theorem ret_bool {a b : Bool} (h : a = b) : Ending.returned (.bool a) = .returned (.bool b) := by rw [h]

/-- Blocks have been laid behind, and orders drawn; all else is as it was. -/
def Grew (w w' : World) : Prop := Below w.heap.size w w' ∧ w.drawn ≤ w'.drawn
theorem Grew.refl (w : World) : Grew w w := ⟨Below.refl _ _, Nat.le_refl _⟩
theorem Grew.trans {a b c : World} (h : Grew a b) (k : Grew b c) : Grew a c := ⟨h.1.trans (k.1.mono h.1.size), Nat.le_trans h.2 k.2⟩
theorem Grew.trans' {a w w' : World} (h : Grew a w) (e : w'.heap.size = w.heap.size ∧ w'.os = w.os ∧ w'.tape = w.tape ∧ w'.output = w.output ∧ w'.drawn = w.drawn) (hk : ∀ k, k < a.heap.size → w'.heap[k]? = w.heap[k]?) : Grew a w' :=
  ⟨⟨e.2.1.trans h.1.os, e.2.2.1.trans h.1.tape, e.2.2.2.1.trans h.1.output, by rw [e.1]; exact h.1.size, fun k hk' => (hk k hk').trans (h.1.block k hk')⟩, by rw [e.2.2.2.2]; exact h.2⟩
theorem Grew.alloc {a w : World} (h : Grew a w) (o : Obj) : Grew a (w.alloc o) := ⟨h.1.alloc h.1.size o, h.2⟩
theorem Grew.setCell {a w : World} (h : Grew a w) {p : Addr} (hp : a.heap.size ≤ p.block) (u : Value) : Grew a (w.setCell p u) := ⟨h.1.setCell hp u, h.2⟩
theorem Grew.drewN {a w : World} (h : Grew a w) (n : Nat) : Grew a (w.drewN n) := ⟨⟨h.1.os, h.1.tape, h.1.output, h.1.size, h.1.block⟩, Nat.le_trans h.2 (Nat.le_add_right _ _)⟩
theorem Grew.drew {a w : World} (h : Grew a w) : Grew a w.drew := h.drewN 1
theorem Grew.of_drewN (w : World) (n : Nat) : Grew w (w.drewN n) := (Grew.refl w).drewN n
theorem Grew.grow {a w : World} (h : Grew a w) (os : Array Obj) : Grew a (Go.Sort.grow w os) :=
  h.trans ⟨⟨rfl, rfl, rfl, by simp, fun k hk => heap_grow_old w os hk⟩, Nat.le_refl _⟩
theorem Grew.below {w w' : World} (h : Grew w w') : Below w.heap.size w w' := h.1
theorem Grew.size {w w' : World} (h : Grew w w') : w.heap.size ≤ w'.heap.size := h.1.size
theorem Grew.cell {w w' : World} (h : Grew w w') (b o : Nat) (hb : b < w.heap.size) : w'.cell? ⟨b, o, none⟩ = w.cell? ⟨b, o, none⟩ := h.1.cell (p := ⟨b, o, none⟩) hb
theorem Grew.cells {w w' : World} (h : Grew w w') : (∀ b o, b < w.heap.size → w'.cell? ⟨b, o, none⟩ = w.cell? ⟨b, o, none⟩) ∧ (∀ b o, b < w.heap.size → w'.frozen? ⟨b, o, none⟩ = w.frozen? ⟨b, o, none⟩) :=
  ⟨fun b o hb => h.1.cell (p := ⟨b, o, none⟩) hb, fun b o hb => h.1.frozen (p := ⟨b, o, none⟩) hb⟩
theorem Grew.undrawn {a w : World} {n : Nat} (h : Grew (a.drewN n) w) : Grew a w := (Grew.of_drewN a n).trans h
theorem Grew.undrew {a w : World} (h : Grew a.drew w) : Grew a w := (Grew.refl a).drew.trans h
/-- Such a world written out. -/
theorem Grew.form {w w' : World} (h : Grew w w') : ∃ n os, w' = Go.Sort.grow (w.drewN n) os := by
  obtain ⟨⟨h1, h2, h3, h4, h5⟩, h6⟩ := h
  refine ⟨w'.drawn - w.drawn, w'.heap.extract w.heap.size w'.heap.size, ?_⟩
  have hh : w'.heap = w.heap ++ w'.heap.extract w.heap.size w'.heap.size := by
    apply Array.ext_getElem?
    intro i
    by_cases hi : i < w.heap.size
    · rw [h5 i hi, Array.getElem?_append_left hi]
    · rw [Array.getElem?_append_right (by omega), Array.getElem?_extract]
      split
      · congr 1; omega
      · rw [Array.getElem?_eq_none (by omega)]
  cases w'
  simp only [Go.Sort.grow, World.drewN] at *
  subst h1 h2 h3
  simp only [World.mk.injEq, true_and, and_true]
  exact ⟨hh, by omega⟩

@[go_sem] theorem size_drewN (w : World) (n : Nat) : (w.drewN n).heap.size = w.heap.size := rfl
/-- Block b holds these values, and may be written. -/
def Blk (W : World) (b : Nat) (T : TypeId) (vs : List Value) : Prop := W.heap[b]? = some (.cells vs.toArray T (0, 0))
theorem Blk.lt {W : World} {b : Nat} {T : TypeId} {vs : List Value} (h : Blk W b T vs) : b < W.heap.size := (Array.getElem?_eq_some_iff.1 h).1
theorem Blk.cell {W : World} {b : Nat} {T : TypeId} {vs : List Value} (h : Blk W b T vs) (j : Nat) {v : Value} (hv : vs[j]? = some v) : W.cell? ⟨b, j, none⟩ = some v := by
  rw [cell_of_row W b j _ T _ h]; simpa using hv
theorem Blk.free {W : World} {b : Nat} {T : TypeId} {vs : List Value} (h : Blk W b T vs) (j : Nat) : W.frozen? ⟨b, j, none⟩ = false := frozen_of_row W b j _ T h
theorem Blk.grew {W W' : World} {b : Nat} {T : TypeId} {vs : List Value} (h : Blk W b T vs) (g : Grew W W') : Blk W' b T vs := (g.1.block b h.lt).trans h
theorem Blk.drewN {W : World} {b : Nat} {T : TypeId} {vs : List Value} (h : Blk W b T vs) (n : Nat) : Blk (W.drewN n) b T vs := h
theorem Blk.drew {W : World} {b : Nat} {T : TypeId} {vs : List Value} (h : Blk W b T vs) : Blk W.drew b T vs := h
theorem Blk.alloc {W : World} {b : Nat} {T : TypeId} {vs : List Value} (h : Blk W b T vs) (o : Obj) : Blk (W.alloc o) b T vs := (heap_alloc_old W o (r := b) h.lt).trans h
theorem Blk.new {W : World} {b : Nat} {T : TypeId} {vs : List Value} (h : b = W.heap.size) : Blk (W.alloc (.cells vs.toArray T)) b T vs := by subst h; exact heap_alloc_new W _
theorem Blk.set {W : World} {b : Nat} {T : TypeId} {vs : List Value} (h : Blk W b T vs) (j : Nat) (v : Value) : Blk (W.setCell ⟨b, j, none⟩ v) b T (vs.set j v) := by
  have := heap_setCell_same W b j vs.toArray T v h
  unfold Blk
  rw [this]
  simp
theorem Blk.set_as {W : World} {b : Nat} {T : TypeId} {vs vs' : List Value} (h : Blk W b T vs) (j : Nat) (v : Value) (hv : vs.set j v = vs') : Blk (W.setCell ⟨b, j, none⟩ v) b T vs' := hv ▸ h.set j v
theorem Blk.other {W : World} {b b' j : Nat} {T : TypeId} {vs : List Value} (h : Blk W b T vs) (hne : b ≠ b') (v : Value) : Blk (W.setCell ⟨b', j, none⟩ v) b T vs := (heap_setCell_other W ⟨b', j, none⟩ b v hne).trans h
theorem Blk.grow {W : World} {b : Nat} {T : TypeId} {vs : List Value} (h : Blk W b T vs) (n : Nat) (os : Array Obj) : Blk (Go.Sort.grow (W.drewN n) os) b T vs := (heap_grow_old (W.drewN n) os (k := b) h.lt).trans h
theorem name_world {P : Program} {c : Code} {Q : Exit → Act → World → Prop} {a : Act} {w : World} (h : ∀ w2, w2 = w → c.wp P Q a w2) : c.wp P Q a w := h w rfl
theorem name_exit {K : Act → World → Prop} {Q : Exit → Act → World → Prop} {a : Act} {w : World} (h : ∀ w2, w2 = w → Exit.then K Q .normal a w2) : Exit.then K Q .normal a w := h w rfl
theorem wpList_name {P : Program} {ops : Array Oper} {l : List Oper} {Q : Exit → Act → World → Prop} {a : Act} {w : World} (h : ∀ w2, w2 = w → wpList P ops Q l a w2) : wpList P ops Q l a w := h w rfl
/-- Four integers lie in block b, at its head; and they may be written. -/
def Box4 (W : World) (b : Nat) (x y z h : Int) : Prop :=
  W.cell? ⟨b, 0, none⟩ = some (.int .i64 x) ∧ W.cell? ⟨b, 1, none⟩ = some (.int .i64 y) ∧ W.cell? ⟨b, 2, none⟩ = some (.int .i64 z) ∧ W.cell? ⟨b, 3, none⟩ = some (.int .i64 h)
def Free4 (W : World) (b : Nat) : Prop :=
  W.frozen? ⟨b, 0, none⟩ = false ∧ W.frozen? ⟨b, 1, none⟩ = false ∧ W.frozen? ⟨b, 2, none⟩ = false ∧ W.frozen? ⟨b, 3, none⟩ = false
/-- A callee that has grown the world, met in a quiet region whose class is 'grown'. -/
theorem grown_call {P : Program} {f : FuncId} {args : Array Value} {w : World} {n : Nat} {os : Array Obj} {v : Value}
    (h : Calls P f args (grow (w.drewN n) os) fun e w' => e = .returned v ∧ Grew (grow (w.drewN n) os) w') : Calls P f args (grow (w.drewN n) os) fun e w'' => e = .returned v ∧ ∃ p : GrownBy, w'' = grow (w.drewN p.n) p.os :=
  Calls.grown_of (h.mono fun _ _ ⟨he, hg⟩ => ⟨he, hg.form⟩)
end Go.Proofs.Ytbmkamnjjfmdiaa
