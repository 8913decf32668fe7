/- eval: a list without an element; an element or a list out of range. -/
import Derived.Test.YtnhhmndnmkkhlaaDoorExLr
namespace Go.Proofs.YtnhhmndnmkkhlaaDoor
open Go.RowKit Go.Sort
set_option linter.unusedVariables false
set_option linter.unusedSimpArgs false

theorem EvG.out {w0 : World} {B : Nat} {pe : Option Addr} {me ce : Nat} {s : ByteArray} {c M : Nat} {op k : Int} {p : Option Addr} {f : Nat → Nd} {G : Nat → Int} (hop : op = 20 ∨ op = 21) (hr : Row w0 B p 2 f) (hB0 : B ≤ w0.heap.size)
    (h0 : EvG w0 B pe me ce (f 0) 4 0 0 (NewL M G)) (h1 : Evs w0 B pe me ce (f 1) (0, 1, k)) (hm : M ≤ 100) (hk : (M : Int) ≤ k) (hkn : nuB k = true) (hg : ∀ i, i < M → nuB (G i) = true) :
    Evs w0 B pe me ce ⟨op, 0, s, 2, p, c⟩ (1, 0, 0) := by
  refine (EvG.bin (Gr := fun _ p m c _ => p = none ∧ m = 0 ∧ c = 0) (.inr (.inr hop)) hr hB0 h0 h1.gen NewL.grew NewL.set (fun _ _ _ _ _ _ h _ => h) (fun _ _ _ _ _ _ _ _ h _ _ => h) (fun _ _ _ _ _ _ h _ => h) (fun _ _ _ _ _ _ _ _ h _ _ => h) (fun _ _ _ _ _ _ h _ => h) (fun W pp pa ma ca pb mb cb La Lb hb hs A C T => hide ?_)).back (fun _ _ _ _ _ h => h)
  obtain ⟨rfl, rfl, rfl⟩ := C
  obtain ⟨rfl, ra⟩ := A.row
  refine (operate_out op hop pp pa 2 ma ca G k W T hm hk hkn ra hg).mono ?_
  rintro e w' ⟨rfl, gg⟩
  exact ⟨none, 0, 0, rfl, ⟨rfl, rfl, rfl⟩, gg⟩
theorem own_cap {w : World} {base m : Nat} {p : Option Addr} {c : Nat} {g : Nat → Int} (h : w.ownsRow base 24 4 (.slice p m c) m (vcs g m)) : m ≤ c ∧ c ≤ 9223372036854775807 := by
  rcases h.2 with ⟨h1, rfl⟩ | ⟨b, cap, cur, h1, hb, hg, hn, hc, hs, ht⟩
  · simp only [Value.slice.injEq] at h1
    omega
  · simp only [Value.slice.injEq] at h1
    obtain ⟨-, -, rfl⟩ := h1
    have : maxLen = 9223372036854775807 := by decide
    omega
theorem EvG.drop {w0 : World} {B : Nat} {pe : Option Addr} {me ce : Nat} {s : ByteArray} {c M k : Nat} {p : Option Addr} {f : Nat → Nd} {G : Nat → Int} (hr : Row w0 B p 2 f) (hB0 : B ≤ w0.heap.size)
    (h0 : EvG w0 B pe me ce (f 0) 4 0 0 (NewL M G)) (h1 : Evs w0 B pe me ce (f 1) (0, 1, (k : Int))) (hm : M ≤ 100) (hk : k < M) (hkn : nuB (k : Int) = true) (hg : ∀ i, i < M → nuB (G i) = true) (hG : ∀ i, i < k + (M - (k + 1)) → nuB (dropG G k i) = true) :
    EvG w0 B pe me ce ⟨21, 0, s, 2, p, c⟩ 4 0 0 (NewL (k + (M - (k + 1))) (dropG G k)) := by
  refine EvG.bin (.inr (.inr (.inr rfl))) hr hB0 h0 h1.gen NewL.grew NewL.set (fun _ _ _ _ _ _ h _ => h) (fun _ _ _ _ _ _ _ _ h _ _ => h) NewL.grew NewL.set NewL.less (fun W pp pa ma ca pb mb cb La Lb hb hs A C T => hide ?_)
  obtain ⟨rfl, rfl, rfl⟩ := C
  obtain ⟨rfl, ra⟩ := A.row
  obtain ⟨-, base, -, ow⟩ := A
  have hc := own_cap ow
  refine (operate_drop pp pa 2 ma ca G k W T hm hk hkn hc.1 hc.2 ra hg hG).mono ?_
  rintro e w' ⟨pr, mr, cr, rfl, ⟨h0, base, h1, h2⟩, gg⟩
  exact ⟨pr, mr, cr, rfl, ⟨h0, base, Nat.le_of_lt h1, h2⟩, gg⟩
end Go.Proofs.YtnhhmndnmkkhlaaDoor
