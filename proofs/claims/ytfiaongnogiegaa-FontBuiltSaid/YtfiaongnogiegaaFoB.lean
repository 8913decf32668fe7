/- What widthOf returns: the width of the first element that contains the rune, or the default; no condition. -/
import Derived.Test.YtfiaongnogiegaaFoA
namespace Go.Proofs.Ytfiaongnogiegaa
open Go.RowKit Go.Sort
set_option linter.unusedVariables false
set_option linter.unusedSimpArgs false

/-- A row of structs of k cells. -/
def SRow (W : World) (p : Option Addr) (n k : Nat) (f : Nat → Nat → Value) : Prop := 0 < n → ∃ b off, p = some ⟨b, off, none⟩ ∧ b < W.heap.size ∧ ∀ i, i < n → ∀ j, j < k → W.cell? ⟨b, off + i * k + j, none⟩ = some (f i j)
theorem SRow.grew {w w' : World} {p : Option Addr} {n k : Nat} {f : Nat → Nat → Value} (h : SRow w p n k f) (g : Grew w w') : SRow w' p n k f := fun hn => by
  obtain ⟨b, off, hp, hb, hc⟩ := h hn
  exact ⟨b, off, hp, Nat.lt_of_lt_of_le hb g.size, fun i hi j hj => (g.1.cell (p := ⟨b, off + i * k + j, none⟩) hb).trans (hc i hi j hj)⟩
structure Ad where
  f : Int
  t : Int
  w : Int
structure Kn where
  a : Int
  b : Int
  d : Int
structure Lg where
  a : Int
  b : Int
  g : Int
  w : Int
/-- A font: its numbers, and its lists as functions of the place with their lengths. -/
structure Fn where
  u : Int
  a : Int
  d : Int
  g : Int
  df : Int
  na : Nat
  av : Nat → Ad
  nk : Nat
  kv : Nat → Kn
  nl : Nat
  lv : Nat → Lg
def adC (f : Nat → Ad) (i j : Nat) : Value := match j with
  | 0 => .int .i32 (f i).f
  | 1 => .int .i32 (f i).t
  | _ => .int .i64 (f i).w
def knC (f : Nat → Kn) (i j : Nat) : Value := match j with
  | 0 => .int .i32 (f i).a
  | 1 => .int .i32 (f i).b
  | _ => .int .i64 (f i).d
def lgC (f : Nat → Lg) (i j : Nat) : Value := match j with
  | 0 => .int .i32 (f i).a
  | 1 => .int .i32 (f i).b
  | 2 => .int .i64 (f i).g
  | _ => .int .i64 (f i).w
/-- The three slices of a font. -/
structure Sl where
  pa : Option Addr
  ca : Nat
  pk : Option Addr
  ck : Nat
  pl : Option Addr
  cl : Nat
abbrev Fn.v (F : Fn) (s : Sl) : Value := .agg #[.int .i64 F.u, .int .i64 F.a, .int .i64 F.d, .int .i64 F.g, .int .i64 F.df, .slice s.pa F.na s.ca, .slice s.pk F.nk s.ck, .slice s.pl F.nl s.cl]
structure FAt (W : World) (F : Fn) (s : Sl) : Prop where
  av : SRow W s.pa F.na 3 (adC F.av)
  kv : SRow W s.pk F.nk 3 (knC F.kv)
  lv : SRow W s.pl F.nl 4 (lgC F.lv)
theorem FAt.grew {w w' : World} {F : Fn} {s : Sl} (h : FAt w F s) (g : Grew w w') : FAt w' F s := ⟨h.av.grew g, h.kv.grew g, h.lv.grew g⟩
/-- The width of the first of the elements k to k + m - 1 that contains r. -/
def wdF (f : Nat → Ad) (df r : Int) : Nat → Nat → Int
  | _, 0 => df
  | k, m + 1 => if (f k).f ≤ r ∧ r ≤ (f k).t then (f k).w else wdF f df r (k + 1) m

set_option maxHeartbeats 4000000 in
theorem widthOf_any (F : Fn) (s : Sl) (r : Int) (w : World) (H : FAt w F s) (hn : F.na ≤ 100000) :
    Calls Try.prog 37 #[F.v s, .int .i32 r] w fun e w' => e = .returned (.int .i64 (wdF F.av F.df r 0 F.na)) ∧ Grew w w' := by
  obtain ⟨u, a, d, g, df, na, av, nk, kv, nl, lv⟩ := F
  obtain ⟨pa, ca, pk, ck, pl, cl⟩ := s
  dsimp only [Fn.v] at *
  have HA : Hid (SRow w pa na 3 (adC av)) := H.av
  obtain ⟨b0, hb0⟩ : ∃ b0, b0 = w.heap.size := ⟨_, rfl⟩
  have G0 : Hid (∀ o, Grew w (w.alloc o)) := fun o => (Grew.refl w).alloc o
  clear H
  go_enter Try.func37, Try.ntmps37
  go_wp2
  have B0 : Hid (Blk (w.alloc (.cells [.int .i64 u, .int .i64 a, .int .i64 d, .int .i64 g, .int .i64 df, .slice pa na ca, .slice pk nk ck, .slice pl nl cl].toArray 26)) b0 26 [.int .i64 u, .int .i64 a, .int .i64 d, .int .i64 g, .int .i64 df, .slice pa na ca, .slice pk nk ck, .slice pl nl cl]) := Blk.new hb0
  rw [← hb0]
  have G1 := hide (G0.out (.cells [.int .i64 u, .int .i64 a, .int .i64 d, .int .i64 g, .int .i64 df, .slice pa na ca, .slice pk nk ck, .slice pl nl cl].toArray 26))
  have S0 : Hid (wdF av df r 0 (na - 0) = wdF av df r 0 na) := rfl
  have hw : Hid (w.heap.size ≤ b0) := Nat.le_of_eq hb0.symm
  clear G0 hb0
  generalize (w.alloc (.cells [.int .i64 u, .int .i64 a, .int .i64 d, .int .i64 g, .int .i64 df, .slice pa na ca, .slice pk nk ck, .slice pl nl cl].toArray 26)) = w1 at *
  go_loopg [10] (na + 1) (fun gh vk wr => ∃ (k : Nat), vk = .int .i64 (k : Int) ∧ k ≤ na ∧ na - k < gh ∧ Hid (Grew w1 wr) ∧ Hid (wdF av df r k (na - k) = wdF av df r 0 na))
  case atStart => exact ⟨0, by go_num, by omega, by omega, Grew.refl _, S0⟩
  case round =>
    clear S0
    obtain ⟨wo, rfl⟩ : ∃ wo : World, wo = wr := ⟨_, rfl⟩
    obtain ⟨k, rfl, hk, hg, G, S⟩ := hrel
    by_cases hlt : k < na
    · have hltz : (k : Int) < (na : Int) := by omega
      obtain ⟨b, off, rfl, hb, hc⟩ := (HA.out.grew (G1.out.trans G.out)) (by omega)
      have c0 : wo.cell? ⟨b, off + k * 3, none⟩ = some (.int .i32 (av k).f) := hc k hlt 0 (by decide)
      have c1 : wo.cell? ⟨b, off + k * 3 + 1, none⟩ = some (.int .i32 (av k).t) := hc k hlt 1 (by decide)
      have c2 : wo.cell? ⟨b, off + k * 3 + 2, none⟩ = some (.int .i64 (av k).w) := hc k hlt 2 (by decide)
      have S' : Hid ((if (av k).f ≤ r ∧ r ≤ (av k).t then (av k).w else wdF av df r (k + 1) (na - (k + 1))) = wdF av df r 0 na) := by
        have := S.out
        rwa [show na - k = na - (k + 1) + 1 by omega, wdF] at this
      have NX : Hid (∀ o, Grew w1 (wo.alloc o)) := fun o => G.out.alloc o
      clear hc S hb
      generalize (av k).f = x at *
      generalize (av k).t = y at *
      generalize (av k).w = z at *
      by_cases h1 : x ≤ r
      · by_cases h2 : r ≤ y
        · have S2 : Hid (z = wdF av df r 0 na) := by have := S'.out; rwa [if_pos ⟨h1, h2⟩] at this
          clear S'
          go_wp2
          go_ret
          exact ⟨ret_int S2.out, G1.out.trans (NX.out _)⟩
        · have S2 := hide (S'.out)
          rw [if_neg (fun h => h2 h.2)] at S2
          clear S'
          go_wp2
          go_roundg (na - k)
          case measure => omega
          case rel => exact ⟨k + 1, by go_num, by omega, by omega, NX.out _, S2⟩
      · have S2 := hide (S'.out)
        rw [if_neg (fun h => h1 h.1)] at S2
        clear S'
        go_wp2
        go_roundg (na - k)
        case measure => omega
        case rel => exact ⟨k + 1, by go_num, by omega, by omega, NX.out _, S2⟩
    · have hltz : ¬ (k : Int) < (na : Int) := by omega
      have B1 := B0.out.grew G.out
      have c4 := B1.cell 4 rfl
      have S2 : Hid (df = wdF av df r 0 na) := by
        have := S.out
        rwa [show na - k = 0 by omega, wdF] at this
      clear S B1
      go_wp2
      go_ret
      exact ⟨ret_int S2.out, G1.out.trans G.out⟩
end Go.Proofs.Ytfiaongnogiegaa
