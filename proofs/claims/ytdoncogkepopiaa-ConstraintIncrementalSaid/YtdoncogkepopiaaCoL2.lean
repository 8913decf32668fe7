/- What the law ConstraintSolves runs, where Solve answers as the chapter asks; no other condition. -/
import Derived.Test.YtdoncogkepopiaaCoL1
import Derived.Test.YtdoncogkepopiaaCoBu
namespace Go.Proofs.Ytdoncogkepopiaa
open Go.RowKit Go.Sort
set_option linter.unusedVariables false
set_option linter.unusedSimpArgs false

/-- A base world with no count of draws. -/
def base0C (W : World) : World := { W with drawn := 0 }
theorem base0C_grew {W w : World} (h : Below W.heap.size W w) : Grew (base0C W) w := ⟨⟨h.os, h.tape, h.output, h.size, h.block⟩, Nat.zero_le _⟩
theorem base0C_below {W w : World} (h : Grew (base0C W) w) : Below W.heap.size W w := ⟨h.1.os, h.1.tape, h.1.output, h.1.size, h.1.block⟩
set_option maxRecDepth 100000 in
set_option maxHeartbeats 20000000 in
theorem csol_core (hS : KSo 10) (p0 : Option Addr) (n0 c0 : Nat) (f : Nat → Int) (w : World) (hnc : n0 ≤ c0) (hr : Reads w p0 n0 f) (hf : ∀ k, -9223372036854775808 ≤ f k ∧ f k ≤ 9223372036854775807) :
    Calls Try.prog 4 #[.slice p0 n0 c0] w fun e w' => e = .returned (.bool true) ∧ Below w.heap.size w w' := by
  have A := hide (fun w' => cawake_any hS w')
  have KS := hide hS
  have K0 := hide (New_any p0 n0 c0 w hnc (fun h => by obtain ⟨b, off, e, _⟩ := hr h; exact ⟨_, e⟩))
  clear hS
  go_enter Try.func4, Try.ntmps4
  go_wp2_with fail
  refine K0.out.mono ?_
  rintro e wa ⟨sb, m0, c', rfl, G1, hsb, ⟨hm1, hm2⟩, B1⟩
  have S1 : Hid (SR (base0C w) wa sb p0 m0 c' f) := ⟨base0C_grew G1.1, hsb, fun h0 => by
    obtain ⟨b, off, e, hc⟩ := hr (by omega)
    exact ⟨b, off, e, fun k hk => hc k (by omega)⟩, hm2, hf, 0, Nat.zero_le _, B1⟩
  clear B1 K0 hr hnc G1 hsb
  have KV := hide (Range_neg (base0C w) wa sb m0 c' p0 f 1 5 S1.out (by decide) (by decide) (by decide))
  go_wp2_with fail
  refine KV.out.mono ?_
  rintro e wb ⟨vars, rfl, ⟨v1, v2⟩, -, SS⟩
  obtain ⟨vn, rfl⟩ : ∃ vn : Nat, vars = (vn : Int) := ⟨vars.toNat, by omega⟩
  have K1 := hide (cbuild_any (base0C w) wb sb m0 c' vn 12 p0 f SS ⟨by omega, by omega⟩ (by decide))
  clear SS KV S1
  go_wp2_with fail
  refine K1.out.mono ?_
  rintro e wc ⟨v, m, l, rfl, hm, -, O1, -, S2⟩
  obtain ⟨p, c, rfl, hc, hp⟩ := own_srow O1
  have B0 : Hid (Below w.heap.size w wc) := base0C_below S2.g
  have T1 := hide (KS.out vn p m c l wc hp hc (by omega))
  have T2 := hide (fun w' (h : Below wc.heap.size wc w') => rSo vn p m c l w' (hp.below h) hc (by omega))
  have V : Hid (erS (vn : Int) m l = 0 → (vn : Int).toNat ≤ 64) := fun h => by omega
  clear O1 S2 K1 hp hm1 hm2 KS
  generalize hvars : (vn : Int) = vars at *
  clear hvars
  go_wp2_with fail
  refine T1.out.mono ?_
  rintro e w1 ⟨hy, hn, hB⟩
  have B1 := hide hB
  clear T1 hB
  by_cases h0 : erS vars m l = 0
  · obtain ⟨q1, c1, q2, c2, q3, c3, rfl, -, s1, b1, x1⟩ := hy h0
    have S1 := hide s1
    have BB1 := hide b1
    have X1 := hide x1
    clear hy hn s1 b1 x1
    have B1 : Hid (Below wc.heap.size wc (w1.alloc (.cells #[.int .i64 vars, .slice q1 m c1, .slice q2 m c2, .slice q3 vars.toNat c3] 26))) := B1.out.alloc B1.out.size _
    have K2 := hide (T2.out _ B1.out)
    have LA := hide ((Below.refl w1.heap.size w1).alloc (Nat.le_refl _) (.cells #[.int .i64 vars, .slice q1 m c1, .slice q2 m c2, .slice q3 vars.toNat c3] 26))
    have S1 := hide (S1.out.below LA.out)
    have BB1 := hide (BB1.out.below LA.out)
    have X1 := hide (X1.out.below LA.out)
    have KA := hide (sys_blk w1 vars q1 m c1 q2 m c2 q3 vars.toNat c3)
    clear T2 LA
    go_wp2_with fail
    refine K2.out.mono ?_
    generalize w1.alloc (.cells #[.int .i64 vars, .slice q1 m c1, .slice q2 m c2, .slice q3 vars.toNat c3] 26) = w5 at *
    generalize w1.heap.size = sb at *
    rintro e w2 ⟨hy, hn, hB⟩
    have KB : Hid (Blk w2 sb 26 (sysL vars q1 m c1 q2 m c2 q3 vars.toNat c3)) := (hB.block sb KA.out.lt).trans KA.out
    have hlt : sb < w2.heap.size := KB.out.lt
    obtain ⟨p1, d1, p2, d2, p3, d3, rfl, -, s2, b2, x2⟩ := hy h0
    have B2 : Hid (Below wc.heap.size wc w2) := B1.out.trans (hB.mono B1.out.size)
    have y0 := KB.out.cell 0 rfl
    have y1 := KB.out.cell 1 rfl
    have y2 := KB.out.cell 2 rfl
    have y3 := KB.out.cell 3 rfl
    have B2 : Hid (Below wc.heap.size wc (w2.alloc (.cells #[.int .i64 vars, .slice p1 m d1, .slice p2 m d2, .slice p3 vars.toNat d3] 26))) := B2.out.alloc B2.out.size _
    have LB := hide ((Below.refl w2.heap.size w2).alloc (Nat.le_refl _) (.cells #[.int .i64 vars, .slice p1 m d1, .slice p2 m d2, .slice p3 vars.toNat d3] 26))
    have SM := hide (rSame_any vars q1 p1 q2 p2 q3 p3 m vars.toNat c1 d1 c2 d2 c3 d3 l _ _ (w2.alloc (.cells #[.int .i64 vars, .slice p1 m d1, .slice p2 m d2, .slice p3 vars.toNat d3] 26)) ((S1.out.below hB).below LB.out) (s2.below LB.out) ((BB1.out.below hB).below LB.out) (b2.below LB.out) ((X1.out.below hB).below LB.out) (x2.below LB.out) (by omega) (by have := V.out h0; omega))
    clear hy hn s2 b2 x2 hB B1 K2 S1 BB1 X1 V
    go_wp2_with fail
    refine SM.out.mono ?_
    rintro e w3 ⟨rfl, hB⟩
    have B3 : Hid (Below wc.heap.size wc w3) := B2.out.trans (hB.mono B2.out.size)
    clear hB B2 SM
    go_wp2_with fail
    refine (A.out w3).mono ?_
    rintro e w4 ⟨rfl, h⟩
    have B5 : Hid (Below wc.heap.size wc w4) := B3.out.trans (h.mono B3.out.size)
    clear h B3
    go_wp2_with fail
    go_ret
    exact ⟨rfl, B0.out.trans (B5.out.mono B0.out.size)⟩
  · obtain rfl := hn h0
    clear hy hn
    have h0' := hide h0
    clear h0
    generalize hE : erS vars m l = er at *
    replace hE := hide hE
    have B1 : Hid (Below wc.heap.size wc (w1.alloc (.cells #[.int .i64 0, .slice none 0 0, .slice none 0 0, .slice none 0 0] 26))) := B1.out.alloc B1.out.size _
    have K2 := hide (T2.out _ B1.out)
    have KA := hide (sys_blk w1 0 none 0 0 none 0 0 none 0 0)
    clear T2
    go_wp2_with fail
    refine K2.out.mono ?_
    generalize w1.alloc (.cells #[.int .i64 0, .slice none 0 0, .slice none 0 0, .slice none 0 0] 26) = w5 at *
    generalize w1.heap.size = sb at *
    rintro e w2 ⟨hy, hn, hB⟩
    have KB : Hid (Blk w2 sb 26 (sysL 0 none 0 0 none 0 0 none 0 0)) := (hB.block sb KA.out.lt).trans KA.out
    have hlt : sb < w2.heap.size := KB.out.lt
    have := hn (by rw [hE.out]; exact h0'.out)
    rw [hE.out] at this
    subst this
    have B2 : Hid (Below wc.heap.size wc w2) := B1.out.trans (hB.mono B1.out.size)
    have y0 := KB.out.cell 0 rfl
    have y1 := KB.out.cell 1 rfl
    have y2 := KB.out.cell 2 rfl
    have y3 := KB.out.cell 3 rfl
    have B2 : Hid (Below wc.heap.size wc (w2.alloc (.cells #[.int .i64 0, .slice none 0 0, .slice none 0 0, .slice none 0 0] 26))) := B2.out.alloc B2.out.size _
    have SM := hide (rSame_any 0 none none none none none none 0 0 0 0 0 0 0 0 l (fun _ => false) (fun _ => 0) (w2.alloc (.cells #[.int .i64 0, .slice none 0 0, .slice none 0 0, .slice none 0 0] 26)) (fun h => absurd h (by omega)) (fun h => absurd h (by omega)) (fun h => absurd h (by omega)) (fun h => absurd h (by omega)) (fun h => absurd h (by omega)) (fun h => absurd h (by omega)) (by omega) (by omega))
    clear hy hn hB B1 K2 V
    go_wp2_with fail
    refine SM.out.mono ?_
    rintro e w3 ⟨rfl, hB⟩
    have B3 : Hid (Below wc.heap.size wc w3) := B2.out.trans (hB.mono B2.out.size)
    clear hB B2 SM
    go_wp2_with fail
    refine (A.out w3).mono ?_
    rintro e w4 ⟨rfl, h⟩
    have B5 : Hid (Below wc.heap.size wc w4) := B3.out.trans (h.mono B3.out.size)
    clear h B3
    go_wp2_with fail
    go_ret
    exact ⟨rfl, B0.out.trans (B5.out.mono B0.out.size)⟩
end Go.Proofs.Ytdoncogkepopiaa
