/- eval at a variable with a list of ints, and at two of them, one behind the other. -/
import Derived.Test.YtnhhmndnmkkhlaaDoorExLq
namespace Go.Proofs.YtnhhmndnmkkhlaaDoor
open Go.RowKit Go.Sort
set_option linter.unusedVariables false
set_option linter.unusedSimpArgs false

/-- The list at p1, below B. -/
def VarL (B : Nat) (p1 : Option Addr) (m1 c1 : Nat) (g : Nat → Int) (_ : Nat) (p : Option Addr) (m c : Nat) (W : World) : Prop := (p = p1 ∧ m = m1 ∧ c = c1) ∧ B ≤ W.heap.size ∧ Row W B p1 m1 (fun i => nd 1 (g i))
theorem VarL.grew {B : Nat} {p1 : Option Addr} {m1 c1 : Nat} {g : Nat → Int} (L : Nat) (p : Option Addr) (m c : Nat) (w w' : World) (h : VarL B p1 m1 c1 g L p m c w) (gr : Grew w w') : VarL B p1 m1 c1 g L p m c w' :=
  ⟨h.1, Nat.le_trans h.2.1 gr.size, h.2.2.below (gr.1.mono h.2.1)⟩
theorem VarL.set {B : Nat} {p1 : Option Addr} {m1 c1 : Nat} {g : Nat → Int} (L : Nat) (p : Option Addr) (m c : Nat) (W : World) (b o : Nat) (x : Value) (h : VarL B p1 m1 c1 g L p m c W) (hb : B ≤ b) (hl : b < L) : VarL B p1 m1 c1 g L p m c (W.setCell ⟨b, o, none⟩ x) :=
  ⟨h.1, by simpa using h.2.1, h.2.2.below ((((Grew.refl W).1.mono h.2.1)).setCell hb _)⟩
theorem EvG.varL {w0 : World} {B : Nat} {pe : Option Addr} {me ce : Nat} {n : Int} {s : ByteArray} {m c m1 c1 : Nat} {p p1 : Option Addr} {g : Nat → Bd} {g1 : Nat → Int} (hm : me ≤ 1000000) (hL : BRow w0 B pe me g) (hB0 : B ≤ w0.heap.size)
    (hl : lkF g s me = some ⟨4, 0, ⟨#[]⟩, m1, p1, c1⟩) (hr : Row w0 B p1 m1 (fun i => nd 1 (g1 i))) : EvG w0 B pe me ce ⟨4, n, s, m, p, c⟩ 4 0 0 (VarL B p1 m1 c1 g1) := by
  intro w hB
  refine (EvG.var0 hm hL hB0 hl w hB).mono ?_
  rintro e w' ⟨pr, mr, cr, rfl, h, gr⟩
  exact ⟨pr, mr, cr, rfl, ⟨h, Nat.le_trans (Nat.le_trans hB0 hB.size) gr.size, hr.below (Grew.to hB gr hB0)⟩, gr⟩
/-- A row made behind L blocks. -/
def NewL (M : Nat) (G : Nat → Int) (L : Nat) (p : Option Addr) (m c : Nat) (W : World) : Prop := m = M ∧ ∃ base, L ≤ base ∧ W.ownsRow base 24 4 (.slice p m c) M (vcs G M)
theorem NewL.grew {M : Nat} {G : Nat → Int} (L : Nat) (p : Option Addr) (m c : Nat) (w w' : World) (h : NewL M G L p m c w) (g : Grew w w') : NewL M G L p m c w' := by
  obtain ⟨h0, base, h1, h2⟩ := h
  exact ⟨h0, base, h1, own_grew h2 g⟩
theorem NewL.set {M B : Nat} {G : Nat → Int} (L : Nat) (p : Option Addr) (m c : Nat) (w : World) (b o : Nat) (x : Value) (h : NewL M G L p m c w) (_ : B ≤ b) (hb : b < L) : NewL M G L p m c (w.setCell ⟨b, o, none⟩ x) := by
  obtain ⟨h0, base, h1, h2⟩ := h
  exact ⟨h0, base, h1, own_set h2 (Nat.lt_of_lt_of_le hb h1) _ _⟩
theorem NewL.less {M : Nat} {G : Nat → Int} (L L' : Nat) (p : Option Addr) (m c : Nat) (w : World) (h : NewL M G L p m c w) (hl : L' ≤ L) : NewL M G L' p m c w := by
  obtain ⟨h0, base, h1, h2⟩ := h
  exact ⟨h0, base, Nat.le_trans hl h1, h2⟩
theorem NewL.row {M : Nat} {G : Nat → Int} (L : Nat) (p : Option Addr) (m c : Nat) (w : World) (h : NewL M G L p m c w) : m = M ∧ Row w w.heap.size p M (fun i => nd 1 (G i)) := by
  obtain ⟨rfl, base, h1, h2⟩ := h
  obtain ⟨p', c', e, h3, h4⟩ := own_row h2
  simp only [Value.slice.injEq, true_and] at e
  obtain ⟨rfl, rfl⟩ := e
  exact ⟨rfl, h4⟩

theorem EvG.cat {w0 : World} {B : Nat} {pe : Option Addr} {me ce : Nat} {s : ByteArray} {c m0 n0 m1 n1 : Nat} {p q0 q1 : Option Addr} {f : Nat → Nd} {g0 g1 : Nat → Int} (hr : Row w0 B p 2 f) (hB0 : B ≤ w0.heap.size)
    (h0 : EvG w0 B pe me ce (f 0) 4 0 0 (VarL B q0 m0 n0 g0)) (h1 : EvG w0 B pe me ce (f 1) 4 0 0 (VarL B q1 m1 n1 g1)) (hm : m0 + m1 ≤ 100) (hq0 : Plain q0) (hq1 : Plain q1)
    (hg0 : ∀ i, i < m0 → nuB (g0 i) = true) (hg1 : ∀ i, i < m1 → nuB (g1 i) = true) (hG : ∀ i, i < m0 + m1 → nuB (catG g0 g1 m0 i) = true) :
    EvG w0 B pe me ce ⟨16, 0, s, 2, p, c⟩ 4 0 0 (NewL (m0 + m1) (catG g0 g1 m0)) := by
  refine EvG.bin (.inr (.inl rfl)) hr hB0 h0 h1 VarL.grew VarL.set VarL.grew VarL.set NewL.grew NewL.set NewL.less (fun W pp pa ma ca pb mb cb La Lb hb hs A C T => hide ?_)
  obtain ⟨⟨rfl, rfl, rfl⟩, -, ra⟩ := A
  obtain ⟨⟨rfl, rfl, rfl⟩, -, rb⟩ := C
  refine (operate_cat pp pa pb 2 ma ca mb cb g0 g1 W T hm hq0 hq1 (ra.mono hs) (rb.mono hs) hg0 hg1 hG).mono ?_
  rintro e w' ⟨pr, mr, cr, rfl, ⟨h0, base, h1, h2⟩, gg⟩
  exact ⟨pr, mr, cr, rfl, ⟨h0, base, Nat.le_of_lt h1, h2⟩, gg⟩
/-- An item of the list of an expression. -/
theorem EvG.item {w0 : World} {B : Nat} {pe : Option Addr} {me ce : Nat} {s : ByteArray} {c M k : Nat} {p : Option Addr} {f : Nat → Nd} {G : Nat → Int} (hr : Row w0 B p 2 f) (hB0 : B ≤ w0.heap.size)
    (h0 : EvG w0 B pe me ce (f 0) 4 0 0 (NewL M G)) (h1 : Evs w0 B pe me ce (f 1) (0, 1, (k : Int))) (hm : M ≤ 100) (hk : k < M) (hkn : nuB (k : Int) = true) (hg : ∀ i, i < M → nuB (G i) = true) :
    Evs w0 B pe me ce ⟨20, 0, s, 2, p, c⟩ (0, 1, G k) := by
  refine (EvG.bin (Gr := fun _ p m c _ => p = none ∧ m = 0 ∧ c = 0) (.inr (.inr (.inl rfl))) hr hB0 h0 h1.gen NewL.grew NewL.set (fun _ _ _ _ _ _ h _ => h) (fun _ _ _ _ _ _ _ _ h _ _ => h) (fun _ _ _ _ _ _ h _ => h) (fun _ _ _ _ _ _ _ _ h _ _ => h) (fun _ _ _ _ _ _ h _ => h) (fun W pp pa ma ca pb mb cb La Lb hb hs A C T => hide ?_)).back (fun _ _ _ _ _ h => h)
  obtain ⟨rfl, rfl, rfl⟩ := C
  obtain ⟨rfl, ra⟩ := A.row
  refine (operate_item pp pa 2 ma ca G k W T hm hk hkn ra hg).mono ?_
  rintro e w' ⟨rfl, gg⟩
  exact ⟨none, 0, 0, rfl, ⟨rfl, rfl, rfl⟩, gg⟩
end Go.Proofs.YtnhhmndnmkkhlaaDoor
