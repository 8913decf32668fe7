/- What Ligature returns, for every font; no condition but that its lists read as such. -/
import Derived.Test.YtfiaongnogiegaaFoG
namespace Go.Proofs.Ytfiaongnogiegaa
open Go.RowKit Go.Sort
set_option linter.unusedVariables false
set_option linter.unusedSimpArgs false

/-- The first of the elements k to k + m - 1 that is for a and b. -/
def lgO (f : Nat → Lg) (a b : Int) : Nat → Nat → Option Lg
  | _, 0 => none
  | k, m + 1 => if (f k).a = a ∧ (f k).b = b then some (f k) else lgO f a b (k + 1) m
def lgT : Option Lg → Value
  | some l => .tuple #[lgV l.a l.b l.g l.w, .bool true]
  | none => .tuple #[lgV 0 0 0 0, .bool false]
def ligF (F : Fn) (a b : Int) : Option Lg := if vldF F = 0 then lgO F.lv a b 0 F.nl else none
theorem stored4 {w : World} {b : Nat} {T : TypeId} {v0 v1 v2 v3 z0 z1 z2 z3 : Value} (h : Blk w b T [z0, z1, z2, z3]) :
    Blk ((((w.setCell ⟨b, 0, none⟩ v0).setCell ⟨b, 1, none⟩ v1).setCell ⟨b, 2, none⟩ v2).setCell ⟨b, 3, none⟩ v3) b T [v0, v1, v2, v3] ∧ ∀ x, Grew x w → x.heap.size ≤ b → Grew x ((((w.setCell ⟨b, 0, none⟩ v0).setCell ⟨b, 1, none⟩ v1).setCell ⟨b, 2, none⟩ v2).setCell ⟨b, 3, none⟩ v3) :=
  ⟨(((h.set 0 v0).set 1 v1).set 2 v2).set 3 v3, fun x g hb => (((g.setCell (p := ⟨b, 0, none⟩) hb v0).setCell (p := ⟨b, 1, none⟩) hb v1).setCell (p := ⟨b, 2, none⟩) hb v2).setCell (p := ⟨b, 3, none⟩) hb v3⟩
set_option maxRecDepth 100000 in
set_option maxHeartbeats 8000000 in
theorem Ligature_any (F : Fn) (s : Sl) (a1 b1 : Int) (w : World) (H : FAt w F s) :
    Calls Try.prog 18 #[F.v s, .int .i32 a1, .int .i32 b1] w fun e w' => e = .returned (lgT (ligF F a1 b1)) ∧ Grew w w' := by
  have KV := fun W => fun (gw : Grew w W) => hide (Validate_any F s W (H.grew gw))
  have KO : vldF F = 0 → Hid (F.nl ≤ 100) := fun h => (ok_of h).nl
  have HL : Hid (SRow w s.pl F.nl 4 (lgC F.lv)) := H.lv
  obtain ⟨R, hR⟩ : ∃ R, R = ligF F a1 b1 := ⟨_, rfl⟩
  rw [← hR]
  unfold ligF at hR
  replace hR := hide hR
  generalize vldF F = y at *
  clear H
  obtain ⟨u, a, d, g, df, na, av, nk, kv, nl, lv⟩ := F
  obtain ⟨pa, ca, pk, ck, pl, cl⟩ := s
  dsimp only [Fn.v] at *
  obtain ⟨b0, hb0⟩ : ∃ b0, b0 = w.heap.size := ⟨_, rfl⟩
  have G0 : Hid (∀ o, Grew w (w.alloc o)) := fun o => (Grew.refl w).alloc o
  have hR : Hid (R = if y = 0 then lgO lv a1 b1 0 nl else none) := hR.out
  have HL : Hid (SRow w pl nl 4 (lgC lv)) := HL.out
  have KO : y = 0 → Hid (nl ≤ 100) := KO
  go_enter Try.func18, Try.ntmps18
  go_wp2_with fail
  have B0 : Hid (Blk ((w.alloc (.cells [.int .i64 u, .int .i64 a, .int .i64 d, .int .i64 g, .int .i64 df, .slice pa na ca, .slice pk nk ck, .slice pl nl cl].toArray 26)).alloc (.cells [.int .i32 0, .int .i32 0, .int .i64 0, .int .i64 0].toArray 39)) b0 26 [.int .i64 u, .int .i64 a, .int .i64 d, .int .i64 g, .int .i64 df, .slice pa na ca, .slice pk nk ck, .slice pl nl cl]) := (Blk.new hb0).alloc _
  have L0 : Hid (Blk ((w.alloc (.cells [.int .i64 u, .int .i64 a, .int .i64 d, .int .i64 g, .int .i64 df, .slice pa na ca, .slice pk nk ck, .slice pl nl cl].toArray 26)).alloc (.cells [.int .i32 0, .int .i32 0, .int .i64 0, .int .i64 0].toArray 39)) (b0 + 1) 39 [.int .i32 0, .int .i32 0, .int .i64 0, .int .i64 0]) := Blk.new (by rw [hb0]; simp)
  rw [← hb0]
  have G1 := hide ((G0.out (.cells [.int .i64 u, .int .i64 a, .int .i64 d, .int .i64 g, .int .i64 df, .slice pa na ca, .slice pk nk ck, .slice pl nl cl].toArray 26)).alloc (.cells [.int .i32 0, .int .i32 0, .int .i64 0, .int .i64 0].toArray 39))
  have hw : Hid (w.heap.size ≤ b0 + 1) := by show w.heap.size ≤ b0 + 1; omega
  clear G0 hb0
  generalize ((w.alloc (.cells [.int .i64 u, .int .i64 a, .int .i64 d, .int .i64 g, .int .i64 df, .slice pa na ca, .slice pk nk ck, .slice pl nl cl].toArray 26)).alloc (.cells [.int .i32 0, .int .i32 0, .int .i64 0, .int .i64 0].toArray 39)) = w1 at *
  refine (KV _ G1.out).out.mono ?_
  rintro e w3 ⟨rfl, G3⟩
  have B3 := hide (B0.out.grew G3)
  have L3 := hide (L0.out.grew G3)
  have GT := hide (G1.out.trans G3)
  clear G3 KV B0 L0 G1
  have r0 := L3.out.cell 0 rfl
  have r1 := L3.out.cell 1 rfl
  have r2 := L3.out.cell 2 rfl
  have r3 := L3.out.cell 3 rfl
  have q0 := L3.out.free 0
  have q1 := L3.out.free 1
  have q2 := L3.out.free 2
  have q3 := L3.out.free 3
  by_cases hy : y = 0
  · have hy' : (y != 0) = false := by simp [hy]
    have hnl := (KO hy).out
    have hR : Hid (R = lgO lv a1 b1 0 nl) := by have := hR.out; rwa [if_pos hy] at this
    replace hy := hide hy
    have c7 := B3.out.cell 7 rfl
    go_wp2
    clear c7 r0 r1 r2 r3 q0 q1 q2 q3
    have S0 : Hid (lgO lv a1 b1 0 (nl - 0) = lgO lv a1 b1 0 nl) := rfl
    go_loopg [17] (nl + 1) (fun gh vk wr => ∃ (k : Nat), vk = .int .i64 (k : Int) ∧ k ≤ nl ∧ nl - k < gh ∧ Hid (Grew w3 wr) ∧ Hid (lgO lv a1 b1 k (nl - k) = lgO lv a1 b1 0 nl))
    case atStart => exact ⟨0, by go_num, by omega, by omega, Grew.refl _, S0⟩
    case round =>
      clear S0
      obtain ⟨wo, rfl⟩ : ∃ wo : World, wo = wr := ⟨_, rfl⟩
      obtain ⟨k, rfl, hk, hg, G, S⟩ := hrel
      have LO := hide (L3.out.grew G.out)
      by_cases hlt : k < nl
      · have hltz : (k : Int) < (nl : Int) := by omega
        obtain ⟨b, off, rfl, hb, hc⟩ := (HL.out.grew (GT.out.trans G.out)) (by omega)
        have c0 : wo.cell? ⟨b, off + k * 4, none⟩ = some (.int .i32 (lv k).a) := hc k hlt 0 (by decide)
        have c1 : wo.cell? ⟨b, off + k * 4 + 1, none⟩ = some (.int .i32 (lv k).b) := hc k hlt 1 (by decide)
        have c2 : wo.cell? ⟨b, off + k * 4 + 2, none⟩ = some (.int .i64 (lv k).g) := hc k hlt 2 (by decide)
        have c3 : wo.cell? ⟨b, off + k * 4 + 3, none⟩ = some (.int .i64 (lv k).w) := hc k hlt 3 (by decide)
        obtain ⟨l, hl⟩ : ∃ l, l = lv k := ⟨_, rfl⟩
        rw [← hl] at c0 c1 c2 c3
        have S' : Hid ((if l.a = a1 ∧ l.b = b1 then some l else lgO lv a1 b1 (k + 1) (nl - (k + 1))) = lgO lv a1 b1 0 nl) := by
          have := S.out
          rwa [show nl - k = nl - (k + 1) + 1 by omega, lgO, ← hl] at this
        have NX : Hid (∀ o, Grew w3 (wo.alloc o)) := fun o => G.out.alloc o
        obtain ⟨x0, x1, x2, x3⟩ := l
        dsimp only at c0 c1 c2 c3 S'
        clear hc S hb hl
        by_cases h1 : x0 = a1
        · by_cases h2 : x1 = b1
          · have e1 : (x0 == a1) = true := by simpa using h1
            have e2 : (x1 == b1) = true := by simpa using h2
            have S2 : Hid (lgO lv a1 b1 0 nl = some ⟨x0, x1, x2, x3⟩) := by have := S'.out; rw [if_pos ⟨h1, h2⟩] at this; exact this.symm
            replace h1 := hide h1
            replace h2 := hide h2
            have ST := hide (stored4 (v0 := .int .i32 x0) (v1 := .int .i32 x1) (v2 := .int .i64 x2) (v3 := .int .i64 x3) LO.out)
            have r0 := LO.out.cell 0 rfl
            have r1 := LO.out.cell 1 rfl
            have r2 := LO.out.cell 2 rfl
            have r3 := LO.out.cell 3 rfl
            have q0 := LO.out.free 0
            have q1 := LO.out.free 1
            have q2 := LO.out.free 2
            have q3 := LO.out.free 3
            have hbl := LO.out.lt
            clear S'
            go_wp2
            obtain ⟨z0, z1⟩ := ST.out
            have BF : Hid (Blk (((((wo.setCell ⟨b0 + 1, 0, none⟩ (.int .i32 x0)).setCell ⟨b0 + 1, 1, none⟩ (.int .i32 x1)).setCell ⟨b0 + 1, 2, none⟩ (.int .i64 x2)).setCell ⟨b0 + 1, 3, none⟩ (.int .i64 x3)).alloc (.cells [.int .i32 x0, .int .i32 x1, .int .i64 x2, .int .i64 x3].toArray 39)) (b0 + 1) 39 [.int .i32 x0, .int .i32 x1, .int .i64 x2, .int .i64 x3]) := z0.alloc _
            have GF : Hid (Grew w (((((wo.setCell ⟨b0 + 1, 0, none⟩ (.int .i32 x0)).setCell ⟨b0 + 1, 1, none⟩ (.int .i32 x1)).setCell ⟨b0 + 1, 2, none⟩ (.int .i64 x2)).setCell ⟨b0 + 1, 3, none⟩ (.int .i64 x3)).alloc (.cells [.int .i32 x0, .int .i32 x1, .int .i64 x2, .int .i64 x3].toArray 39))) := (z1 w (GT.out.trans G.out) hw.out).alloc _
            clear r0 r1 r2 r3 q0 q1 q2 q3 z0 z1 ST
            generalize (((((wo.setCell ⟨b0 + 1, 0, none⟩ (.int .i32 x0)).setCell ⟨b0 + 1, 1, none⟩ (.int .i32 x1)).setCell ⟨b0 + 1, 2, none⟩ (.int .i64 x2)).setCell ⟨b0 + 1, 3, none⟩ (.int .i64 x3)).alloc (.cells [.int .i32 x0, .int .i32 x1, .int .i64 x2, .int .i64 x3].toArray 39)) = wf at *
            have d0 := BF.out.cell 0 rfl
            have d1 := BF.out.cell 1 rfl
            have d2 := BF.out.cell 2 rfl
            have d3 := BF.out.cell 3 rfl
            refine bodyPost_ret (v := .tuple #[lgV x0 x1 x2 x3, .bool true]) (by simp [results, Try.results18, go_sem, d0, d1, d2, d3]) rfl ⟨?_, GF.out⟩
            rw [hR.out, S2.out]
            rfl
          · have e2 : (x1 == b1) = false := by simpa using h2
            have S2 := hide (S'.out)
            rw [if_neg (fun h => h2 h.2)] at S2
            clear S'
            go_wp2
            go_roundg (nl - k)
            case measure => omega
            case rel => exact ⟨k + 1, by go_num, by omega, by omega, NX.out _, S2⟩
        · have e1 : (x0 == a1) = false := by simpa using h1
          have S2 := hide (S'.out)
          rw [if_neg (fun h => h1 h.1)] at S2
          clear S'
          go_wp2
          go_roundg (nl - k)
          case measure => omega
          case rel => exact ⟨k + 1, by go_num, by omega, by omega, NX.out _, S2⟩
      · have hltz : ¬ (k : Int) < (nl : Int) := by omega
        have S2 : Hid (lgO lv a1 b1 0 nl = none) := by
          have := S.out
          rw [show nl - k = 0 by omega, lgO] at this
          exact this.symm
        clear S
        have r0 := LO.out.cell 0 rfl
        have r1 := LO.out.cell 1 rfl
        have r2 := LO.out.cell 2 rfl
        have r3 := LO.out.cell 3 rfl
        have q0 := LO.out.free 0
        have q1 := LO.out.free 1
        have q2 := LO.out.free 2
        have q3 := LO.out.free 3
        have ST := hide (stored4 (v0 := .int .i32 0) (v1 := .int .i32 0) (v2 := .int .i64 0) (v3 := .int .i64 0) LO.out)
        go_wp2
        obtain ⟨z0, z1⟩ := ST.out
        have BF : Hid (Blk ((((wo.setCell ⟨b0 + 1, 0, none⟩ (.int .i32 0)).setCell ⟨b0 + 1, 1, none⟩ (.int .i32 0)).setCell ⟨b0 + 1, 2, none⟩ (.int .i64 0)).setCell ⟨b0 + 1, 3, none⟩ (.int .i64 0)) (b0 + 1) 39 [.int .i32 0, .int .i32 0, .int .i64 0, .int .i64 0]) := z0
        have GF : Hid (Grew w ((((wo.setCell ⟨b0 + 1, 0, none⟩ (.int .i32 0)).setCell ⟨b0 + 1, 1, none⟩ (.int .i32 0)).setCell ⟨b0 + 1, 2, none⟩ (.int .i64 0)).setCell ⟨b0 + 1, 3, none⟩ (.int .i64 0))) := z1 w (GT.out.trans G.out) hw.out
        clear r0 r1 r2 r3 q0 q1 q2 q3 z0 z1 ST
        generalize ((((wo.setCell ⟨b0 + 1, 0, none⟩ (.int .i32 0)).setCell ⟨b0 + 1, 1, none⟩ (.int .i32 0)).setCell ⟨b0 + 1, 2, none⟩ (.int .i64 0)).setCell ⟨b0 + 1, 3, none⟩ (.int .i64 0)) = wf at *
        have d0 := BF.out.cell 0 rfl
        have d1 := BF.out.cell 1 rfl
        have d2 := BF.out.cell 2 rfl
        have d3 := BF.out.cell 3 rfl
        refine bodyPost_ret (v := .tuple #[lgV 0 0 0 0, .bool false]) (by simp [results, Try.results18, go_sem, d0, d1, d2, d3]) rfl ⟨?_, GF.out⟩
        rw [hR.out, S2.out]
        rfl
  · have hy' : (y != 0) = true := by simpa using hy
    have hR : Hid (R = none) := by have := hR.out; rwa [if_neg hy] at this
    have ST := hide (stored4 (v0 := .int .i32 0) (v1 := .int .i32 0) (v2 := .int .i64 0) (v3 := .int .i64 0) L3.out)
    go_wp2
    obtain ⟨z0, z1⟩ := ST.out
    have BF : Hid (Blk ((((w3.setCell ⟨b0 + 1, 0, none⟩ (.int .i32 0)).setCell ⟨b0 + 1, 1, none⟩ (.int .i32 0)).setCell ⟨b0 + 1, 2, none⟩ (.int .i64 0)).setCell ⟨b0 + 1, 3, none⟩ (.int .i64 0)) (b0 + 1) 39 [.int .i32 0, .int .i32 0, .int .i64 0, .int .i64 0]) := z0
    have GF : Hid (Grew w ((((w3.setCell ⟨b0 + 1, 0, none⟩ (.int .i32 0)).setCell ⟨b0 + 1, 1, none⟩ (.int .i32 0)).setCell ⟨b0 + 1, 2, none⟩ (.int .i64 0)).setCell ⟨b0 + 1, 3, none⟩ (.int .i64 0))) := z1 w GT.out hw.out
    clear r0 r1 r2 r3 q0 q1 q2 q3 z0 z1 ST
    generalize ((((w3.setCell ⟨b0 + 1, 0, none⟩ (.int .i32 0)).setCell ⟨b0 + 1, 1, none⟩ (.int .i32 0)).setCell ⟨b0 + 1, 2, none⟩ (.int .i64 0)).setCell ⟨b0 + 1, 3, none⟩ (.int .i64 0)) = wf at *
    have d0 := BF.out.cell 0 rfl
    have d1 := BF.out.cell 1 rfl
    have d2 := BF.out.cell 2 rfl
    have d3 := BF.out.cell 3 rfl
    refine bodyPost_ret (v := .tuple #[lgV 0 0 0 0, .bool false]) (by simp [results, Try.results18, go_sem, d0, d1, d2, d3]) rfl ⟨?_, GF.out⟩
    rw [hR.out]
    rfl
end Go.Proofs.Ytfiaongnogiegaa
