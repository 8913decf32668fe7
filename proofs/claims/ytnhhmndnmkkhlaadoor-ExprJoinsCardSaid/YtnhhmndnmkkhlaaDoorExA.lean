/- Nodes of four cells (values and expressions alike) in memory; worlds in which one block alone was written; no condition. -/
import Derived.Test.YtnhhmndnmkkhlaaDoorGeBase
import Derived.Test.YtnhhmndnmkkhlaaDoorMix
import Derived.Deep.LoopGhost
import Derived.Deep.Cut
namespace Go.Proofs.YtnhhmndnmkkhlaaDoor
open Go.RowKit Go.Sort
set_option linter.unusedVariables false
set_option linter.unusedSimpArgs false

theorem ret_tup {a b : Array Value} (h : a = b) : Ending.returned (.tuple a) = .returned (.tuple b) := by rw [h]
theorem ret_agg {a b : Array Value} (h : a = b) : Ending.returned (.agg a) = .returned (.agg b) := by rw [h]
theorem wr' {x : Int} (h1 : -9223372036854775808 ≤ x) (h2 : x ≤ 9223372036854775807) : IntKind.i64.wrap x = x := by rw [IntKind.wrap_i64]; omega

/-- Block b alone was written; blocks have been laid behind, and orders drawn. -/
structure Upd (b : Nat) (w w' : World) : Prop where
  os : w'.os = w.os
  tape : w'.tape = w.tape
  output : w'.output = w.output
  size : w.heap.size ≤ w'.heap.size
  blk : ∀ k, k < w.heap.size → k ≠ b → w'.heap[k]? = w.heap[k]?
theorem Upd.refl (b : Nat) (w : World) : Upd b w w := ⟨rfl, rfl, rfl, Nat.le_refl _, fun _ _ _ => rfl⟩
theorem Upd.trans {b : Nat} {x y z : World} (h : Upd b x y) (g : Upd b y z) : Upd b x z :=
  ⟨g.os.trans h.os, g.tape.trans h.tape, g.output.trans h.output, Nat.le_trans h.size g.size, fun k hk hn => (g.blk k (Nat.lt_of_lt_of_le hk h.size) hn).trans (h.blk k hk hn)⟩
theorem Upd.of_grew {b : Nat} {x y : World} (g : Grew x y) : Upd b x y := ⟨g.1.os, g.1.tape, g.1.output, g.1.size, fun k hk _ => g.1.block k hk⟩
theorem Upd.set {b : Nat} (w : World) (j : Nat) (v : Value) : Upd b w (w.setCell ⟨b, j, none⟩ v) :=
  ⟨rfl, rfl, rfl, by simp, fun k hk hn => heap_setCell_other w ⟨b, j, none⟩ k v hn⟩
/-- The block lay behind: then nothing that was is otherwise. -/
theorem Upd.grew {b : Nat} {a x y : World} (h : Upd b x y) (g : Grew a x) (hb : a.heap.size ≤ b) : Grew a y :=
  ⟨⟨h.os.trans g.1.os, h.tape.trans g.1.tape, h.output.trans g.1.output, Nat.le_trans g.1.size h.size, fun k hk => (h.blk k (Nat.lt_of_lt_of_le hk g.1.size) (by omega)).trans (g.1.block k hk)⟩, trivial⟩
theorem Blk.upd {b b' : Nat} {x y : World} {T : TypeId} {vs : List Value} (h : Blk x b' T vs) (u : Upd b x y) (hn : b' ≠ b) : Blk y b' T vs := (u.blk b' h.lt hn).trans h
theorem Upd.cell {b : Nat} {x y : World} (u : Upd b x y) (p o : Nat) (hp : p < x.heap.size) (hn : p ≠ b) : y.cell? ⟨p, o, none⟩ = x.cell? ⟨p, o, none⟩ := by
  have := u.blk p hp hn
  unfold World.cell?
  simp only [this]

theorem name_calls {P : Program} {f : FuncId} {args : Array Value} {w : World} {R : Ending → World → Prop} (h : ∀ w2, w2 = w → Calls P f args w2 R) : Calls P f args w R := h w rfl
theorem name_bp {P : Program} {f : Func} {R : Ending → World → Prop} {e : Exit} {a : Act} {w : World} (h : ∀ w2, w2 = w → bodyPost P f R e a w2) : bodyPost P f R e a w := h w rfl
/-- A node: two numbers, a text, and a slice of m nodes. -/
structure Nd where
  k : Int
  n : Int
  s : ByteArray
  m : Nat
  p : Option Addr
  c : Nat
abbrev Nd.v (d : Nd) : Value := .agg #[.int .i64 d.k, .int .i64 d.n, .string d.s, .slice d.p d.m d.c]
/-- m nodes lie at p, in a block below B. -/
def Row (W : World) (B : Nat) (p : Option Addr) (m : Nat) (f : Nat → Nd) : Prop :=
  0 < m → ∃ b off, p = some ⟨b, off, none⟩ ∧ b < B ∧ ∀ i, i < m → W.cell? ⟨b, off + i * 4, none⟩ = some (.int .i64 (f i).k) ∧ W.cell? ⟨b, off + i * 4 + 1, none⟩ = some (.int .i64 (f i).n) ∧
      W.cell? ⟨b, off + i * 4 + 2, none⟩ = some (.string (f i).s) ∧ W.cell? ⟨b, off + i * 4 + 3, none⟩ = some (.slice (f i).p (f i).m (f i).c)
theorem Row.below {B : Nat} {x y : World} {p : Option Addr} {m : Nat} {f : Nat → Nd} (h : Row x B p m f) (g : Below B x y) : Row y B p m f := fun hm => by
  obtain ⟨a, off, hp, ha, hc⟩ := h hm
  refine ⟨a, off, hp, ha, fun i hi => ?_⟩
  obtain ⟨h1, h2, h3, h4⟩ := hc i hi
  exact ⟨(g.cell (p := ⟨a, _, none⟩) ha).trans h1, (g.cell (p := ⟨a, _, none⟩) ha).trans h2, (g.cell (p := ⟨a, _, none⟩) ha).trans h3, (g.cell (p := ⟨a, _, none⟩) ha).trans h4⟩
theorem Row.nil {W : World} {B : Nat} {p : Option Addr} {f : Nat → Nd} : Row W B p 0 f := fun h => absurd h (by omega)
theorem Upd.below {b B : Nat} {x y : World} (u : Upd b x y) (hB : B ≤ b) (hs : B ≤ x.heap.size) : Below B x y :=
  ⟨u.os, u.tape, u.output, u.size, fun k hk => u.blk k (by omega) (by omega)⟩
theorem Grew.to {B : Nat} {a x y : World} (h : Below B a x) (g : Grew x y) (hs : B ≤ a.heap.size) : Below B a y := h.trans (g.1.mono (Nat.le_trans hs h.size))
end Go.Proofs.YtnhhmndnmkkhlaaDoor
