/- What Lookup of package theme and of its reference returns, at every row of tokens, mode and name; the row is of at most 1000 tokens. -/
import Derived.Test.YtpdjgmfccolgjaaSRow
import Derived.Test.YtpdjgmfccolgjaaMix
import Derived.Deep.LoopGhost
import Derived.Deep.Cut
namespace Go.Proofs.Ytpdjgmfccolgjaa
open Go.RowKit Go.Sort
set_option linter.unusedVariables false
set_option linter.unusedSimpArgs false

structure Tk where
  nm : ByteArray
  l : Int
  d : Int
  h : Int
  g : Int
abbrev Tk.v (t : Tk) : Value := .agg #[.string t.nm, .int .i64 t.l, .int .i64 t.d, .int .i64 t.h, .int .i64 t.g]
def tkC (x : Nat → Tk) (i j : Nat) : Value := match j with
  | 0 => .string (x i).nm
  | 1 => .int .i64 (x i).l
  | 2 => .int .i64 (x i).d
  | 3 => .int .i64 (x i).h
  | _ => .int .i64 (x i).g
def varF (dk hi : Bool) (t : Tk) : Int := if hi then (if dk then t.g else t.h) else (if dk then t.d else t.l)
/-- The first of the tokens k to k + m - 1 with the name. -/
def lookF (x : Nat → Tk) (dk hi : Bool) (nm : ByteArray) : Nat → Nat → Int × Bool
  | _, 0 => (0, false)
  | k, m + 1 => if (x k).nm = nm then (varF dk hi (x k), true) else lookF x dk hi nm (k + 1) m
abbrev mdV (dk hi : Bool) (sc : Int) : Value := .agg #[.bool dk, .bool hi, .int .i64 sc]

theorem list_same {s t : ByteArray} (h : s = t) : (s.toList == t.toList) = true := by subst h; simp
theorem list_apart {s t : ByteArray} (h : ¬ s = t) : (s.toList == t.toList) = false := by
  rw [beq_eq_false_iff_ne]
  intro e
  rw [ByteArray.toList_eq, ByteArray.toList_eq] at e
  apply h
  obtain ⟨⟨a⟩⟩ := s
  obtain ⟨⟨b⟩⟩ := t
  simpa using e
set_option maxHeartbeats 4000000 in
theorem variant_any (t : Tk) (dk hi : Bool) (sc : Int) (w : World) :
    Calls Try.prog 23 #[t.v, mdV dk hi sc] w fun e w' => e = .returned (.int .i64 (varF dk hi t)) ∧ Grew w w' := by
  obtain ⟨nm, l, d, h, g⟩ := t
  cases hi <;> cases dk
  all_goals
    go_enter Try.func23, Try.ntmps23
    go_wp2
    go_ret
    exact ⟨rfl, ((Grew.refl _).alloc _).alloc _⟩

set_option maxHeartbeats 8000000 in
theorem Lookup_core (p : Option Addr) (n c : Nat) (x : Nat → Tk) (dk hi : Bool) (sc : Int) (nm : ByteArray) (w : World) (H : SRow w p n 5 (tkC x)) (hn : n ≤ 1000) (L1 : Int) (L2 : Bool) (hL : lookF x dk hi nm 0 n = (L1, L2)) :
    Calls Try.prog 8 #[.agg #[.slice p n c], mdV dk hi sc, .string nm] w fun e w' => e = .returned (.tuple #[.int .i64 L1, .bool L2]) ∧ Grew w w' := by
  have HA := hide H
  obtain ⟨b0, hb0⟩ : ∃ b0, b0 = w.heap.size := ⟨_, rfl⟩
  clear H
  go_enter Try.func8, Try.ntmps8
  go_wp2
  have GA : Hid (Grew w ((w.alloc (.cells #[.slice p n c] 24)).alloc (.cells #[.bool dk, .bool hi, .int .i64 sc] 26))) := ((Grew.refl w).alloc _).alloc _
  have B0 : Hid (Blk ((w.alloc (.cells #[.slice p n c] 24)).alloc (.cells #[.bool dk, .bool hi, .int .i64 sc] 26)) (b0 + 1) 26 [.bool dk, .bool hi, .int .i64 sc]) := Blk.new (by simp [hb0])
  have hw : Hid (w.heap.size ≤ b0) := Nat.le_of_eq hb0.symm
  rw [← hb0]
  clear hb0
  generalize ((w.alloc (.cells #[.slice p n c] 24)).alloc (.cells #[.bool dk, .bool hi, .int .i64 sc] 26)) = w1 at *
  go_loopg [13] (n + 1) (fun gh vk wr => ∃ (k : Nat), vk = .int .i64 (k : Int) ∧ k ≤ n ∧ n - k < gh ∧ Hid (Grew w1 wr) ∧ Hid (lookF x dk hi nm k (n - k) = (L1, L2)))
  case atStart => exact ⟨0, by go_num, by omega, by omega, Grew.refl _, hide hL⟩
  case round =>
    clear hL
    obtain ⟨wo, rfl⟩ : ∃ wo : World, wo = wr := ⟨_, rfl⟩
    obtain ⟨k, rfl, hk, hg, G, S⟩ := hrel
    by_cases hlt : k < n
    · have hltz : (k : Int) < (n : Int) := by omega
      obtain ⟨b, off, rfl, hb, hc⟩ := (HA.out.grew (GA.out.trans G.out)) (by omega)
      have c0 : wo.cell? ⟨b, off + k * 5, none⟩ = some (.string (x k).nm) := hc k hlt 0 (by decide)
      have c1 : wo.cell? ⟨b, off + k * 5 + 1, none⟩ = some (.int .i64 (x k).l) := hc k hlt 1 (by decide)
      have c2 : wo.cell? ⟨b, off + k * 5 + 2, none⟩ = some (.int .i64 (x k).d) := hc k hlt 2 (by decide)
      have c3 : wo.cell? ⟨b, off + k * 5 + 3, none⟩ = some (.int .i64 (x k).h) := hc k hlt 3 (by decide)
      have c4 : wo.cell? ⟨b, off + k * 5 + 4, none⟩ = some (.int .i64 (x k).g) := hc k hlt 4 (by decide)
      have BM := hide (B0.out.grew G.out)
      have S' : Hid ((if (x k).nm = nm then (varF dk hi (x k), true) else lookF x dk hi nm (k + 1) (n - (k + 1))) = (L1, L2)) := by
        have := S.out
        rwa [show n - k = n - (k + 1) + 1 by omega, lookF] at this
      have NX : Hid (∀ o, Grew w1 (wo.alloc o)) := fun o => G.out.alloc o
      have KV := fun W => hide (variant_any (x k) dk hi sc W)
      clear hc S hb
      by_cases h1 : (x k).nm = nm
      · have S2 := hide S'.out
        rw [if_pos h1] at S2
        have m0 := fun o => ((BM.out.alloc o).cell 0 rfl)
        have m1 := fun o => ((BM.out.alloc o).cell 1 rfl)
        have m2 := fun o => ((BM.out.alloc o).cell 2 rfl)
        clear S'
        have he := list_same h1
        generalize x k = t at *
        obtain ⟨tn, tl, td, th, tg⟩ := t
        dsimp only [Tk.v, mdV] at *
        subst h1
        generalize varF dk hi { nm := tn, l := tl, d := td, h := th, g := tg } = vv at *
        go_wp2_with fail
        refine (KV _).out.mono ?_
        rintro e w' ⟨rfl, hG⟩
        have e1 := congrArg Prod.fst S2.out
        have e2 := congrArg Prod.snd S2.out
        dsimp only at e1 e2
        clear S2
        subst e1 e2
        have FG : Hid (Grew w w') := (GA.out.trans (NX.out _)).trans hG
        clear hG
        go_wp2
        go_ret2
        exact ⟨rfl, FG.out⟩
      · have S2 := hide S'.out
        rw [if_neg h1] at S2
        clear S' KV
        have he := list_apart h1
        generalize x k = t at *
        obtain ⟨tn, tl, td, th, tg⟩ := t
        dsimp only at *
        go_wp2
        go_roundg (n - k)
        case measure => omega
        case rel => exact ⟨k + 1, by go_num, by omega, by omega, NX.out _, S2⟩
    · have hltz : ¬ (k : Int) < (n : Int) := by omega
      have S2 : Hid ((0, false) = (L1, L2)) := by
        have := S.out
        rwa [show n - k = 0 by omega, lookF] at this
      obtain ⟨rfl, rfl⟩ := Prod.mk.inj S2.out
      clear S
      go_wp2
      go_ret2
      exact ⟨rfl, GA.out.trans G.out⟩
theorem Lookup_any (p : Option Addr) (n c : Nat) (x : Nat → Tk) (dk hi : Bool) (sc : Int) (nm : ByteArray) (w : World) (H : SRow w p n 5 (tkC x)) (hn : n ≤ 1000) :
    Calls Try.prog 8 #[.agg #[.slice p n c], mdV dk hi sc, .string nm] w fun e w' => e = .returned (.tuple #[.int .i64 (lookF x dk hi nm 0 n).1, .bool (lookF x dk hi nm 0 n).2]) ∧ Grew w w' :=
  Lookup_core p n c x dk hi sc nm w H hn _ _ rfl
set_option maxHeartbeats 8000000 in
theorem rLookup_core (p : Option Addr) (n c : Nat) (x : Nat → Tk) (dk hi : Bool) (sc : Int) (nm : ByteArray) (w : World) (H : SRow w p n 5 (tkC x)) (hn : n ≤ 1000) (L1 : Int) (L2 : Bool) (hL : lookF x dk hi nm 0 n = (L1, L2)) :
    Calls Try.prog 9 #[.agg #[.slice p n c], mdV dk hi sc, .string nm] w fun e w' => e = .returned (.tuple #[.int .i64 L1, .bool L2]) ∧ Grew w w' := by
  have HA := hide H
  obtain ⟨b0, hb0⟩ : ∃ b0, b0 = w.heap.size := ⟨_, rfl⟩
  clear H
  go_enter Try.func9, Try.ntmps9
  go_wp2
  have GA : Hid (Grew w ((w.alloc (.cells #[.slice p n c] 24)).alloc (.cells #[.bool dk, .bool hi, .int .i64 sc] 26))) := ((Grew.refl w).alloc _).alloc _
  have B0 : Hid (Blk ((w.alloc (.cells #[.slice p n c] 24)).alloc (.cells #[.bool dk, .bool hi, .int .i64 sc] 26)) (b0 + 1) 26 [.bool dk, .bool hi, .int .i64 sc]) := Blk.new (by simp [hb0])
  have B1 : Hid (Blk ((w.alloc (.cells #[.slice p n c] 24)).alloc (.cells #[.bool dk, .bool hi, .int .i64 sc] 26)) b0 24 [.slice p n c]) := (Blk.new hb0).alloc _
  have hw : Hid (w.heap.size ≤ b0) := Nat.le_of_eq hb0.symm
  rw [← hb0]
  clear hb0
  generalize ((w.alloc (.cells #[.slice p n c] 24)).alloc (.cells #[.bool dk, .bool hi, .int .i64 sc] 26)) = w1 at *
  go_loopg [8] (n + 1) (fun gh vk wr => ∃ (k : Nat), vk = .int .i64 (k : Int) ∧ k ≤ n ∧ n - k < gh ∧ Hid (Grew w1 wr) ∧ Hid (lookF x dk hi nm k (n - k) = (L1, L2)))
  case atStart => exact ⟨0, by go_num, by omega, by omega, Grew.refl _, hide hL⟩
  case round =>
    clear hL
    obtain ⟨wo, rfl⟩ : ∃ wo : World, wo = wr := ⟨_, rfl⟩
    obtain ⟨k, rfl, hk, hg, G, S⟩ := hrel
    have t0 := (B1.out.grew G.out).cell 0 rfl
    by_cases hlt : k < n
    · have hltz : (k : Int) < (n : Int) := by omega
      obtain ⟨b, off, rfl, hb, hc⟩ := (HA.out.grew (GA.out.trans G.out)) (by omega)
      have c0 : wo.cell? ⟨b, off + k * 5, none⟩ = some (.string (x k).nm) := hc k hlt 0 (by decide)
      have c1 : wo.cell? ⟨b, off + k * 5 + 1, none⟩ = some (.int .i64 (x k).l) := hc k hlt 1 (by decide)
      have c2 : wo.cell? ⟨b, off + k * 5 + 2, none⟩ = some (.int .i64 (x k).d) := hc k hlt 2 (by decide)
      have c3 : wo.cell? ⟨b, off + k * 5 + 3, none⟩ = some (.int .i64 (x k).h) := hc k hlt 3 (by decide)
      have c4 : wo.cell? ⟨b, off + k * 5 + 4, none⟩ = some (.int .i64 (x k).g) := hc k hlt 4 (by decide)
      have BM := hide (B0.out.grew G.out)
      have S' : Hid ((if (x k).nm = nm then (varF dk hi (x k), true) else lookF x dk hi nm (k + 1) (n - (k + 1))) = (L1, L2)) := by
        have := S.out
        rwa [show n - k = n - (k + 1) + 1 by omega, lookF] at this
      have NX : Hid (∀ o, Grew w1 (wo.alloc o)) := fun o => G.out.alloc o
      clear hc S hb
      by_cases h1 : (x k).nm = nm
      · have S2 := hide S'.out
        rw [if_pos h1] at S2
        have m0 := fun o => ((BM.out.alloc o).cell 0 rfl)
        have m1 := fun o => ((BM.out.alloc o).cell 1 rfl)
        clear S'
        have he := list_same h1
        generalize x k = t at *
        obtain ⟨tn, tl, td, th, tg⟩ := t
        dsimp only [Tk.v, mdV] at *
        subst h1
        cases hi <;> cases dk
        all_goals
          have e1 := congrArg Prod.fst S2.out
          have e2 := congrArg Prod.snd S2.out
          simp only [varF, if_true, if_false, Bool.false_eq_true] at e1 e2
          clear S2
          subst e1 e2
          go_wp2
          go_ret2
          exact ⟨rfl, GA.out.trans (NX.out _)⟩
      · have S2 := hide S'.out
        rw [if_neg h1] at S2
        clear S'
        have he := list_apart h1
        generalize x k = t at *
        obtain ⟨tn, tl, td, th, tg⟩ := t
        dsimp only at *
        go_wp2
        go_roundg (n - k)
        case measure => omega
        case rel => exact ⟨k + 1, by go_num, by omega, by omega, NX.out _, S2⟩
    · have hltz : ¬ (k : Int) < (n : Int) := by omega
      have S2 : Hid ((0, false) = (L1, L2)) := by
        have := S.out
        rwa [show n - k = 0 by omega, lookF] at this
      obtain ⟨rfl, rfl⟩ := Prod.mk.inj S2.out
      clear S
      go_wp2
      go_ret2
      exact ⟨rfl, GA.out.trans G.out⟩
theorem rLookup_any (p : Option Addr) (n c : Nat) (x : Nat → Tk) (dk hi : Bool) (sc : Int) (nm : ByteArray) (w : World) (H : SRow w p n 5 (tkC x)) (hn : n ≤ 1000) :
    Calls Try.prog 9 #[.agg #[.slice p n c], mdV dk hi sc, .string nm] w fun e w' => e = .returned (.tuple #[.int .i64 (lookF x dk hi nm 0 n).1, .bool (lookF x dk hi nm 0 n).2]) ∧ Grew w w' :=
  rLookup_core p n c x dk hi sc nm w H hn _ _ rfl
end Go.Proofs.Ytpdjgmfccolgjaa
