/- Same of the reference on equal systems; the laws' sanity check of package constraint, over what Solve answers; no condition. -/
import Derived.Test.YtdoncogkepopiaaCoS
import Derived.Test.YtdoncogkepopiaaCoN
import Derived.Test.YtdoncogkepopiaaCoR3
namespace Go.Proofs.Ytdoncogkepopiaa
open Go.RowKit Go.Sort
set_option linter.unusedVariables false
set_option linter.unusedSimpArgs false

set_option maxHeartbeats 40000000 in
set_option maxRecDepth 100000 in
theorem rSame_any (v : Int) (p1 p2 q1 q2 r1 r2 : Option Addr) (m n a1 a2 b1 b2 d1 d2 : Nat) (l : Nat → Cn) (h : Nat → Bool) (x : Nat → Int) (w : World) (S1 : SRow w p1 m 5 (cnC l)) (S2 : SRow w p2 m 5 (cnC l)) (H1 : BReads w q1 m h) (H2 : BReads w q2 m h) (X1 : Reads w r1 n x) (X2 : Reads w r2 n x) (hm : m ≤ 100000) (hn : n ≤ 100000) :
    Calls Try.prog 12 #[sysV v p1 m a1 q1 m b1 r1 n d1, sysV v p2 m a2 q2 m b2 r2 n d2] w fun e w' => e = .returned (.bool true) ∧ Below w.heap.size w w' := by
  have S1 := hide S1
  have S2 := hide S2
  have H1' := hide H1
  have H2' := hide H2
  have X1 := hide X1
  have X2 := hide X2
  clear H1 H2
  go_enter Try.func12, Try.ntmps12
  go_wp2_with fail
  obtain ⟨W, hW⟩ : ∃ W, W = (w.alloc (.cells (sysL v p1 m a1 q1 m b1 r1 n d1).toArray 26)).alloc (.cells (sysL v p2 m a2 q2 m b2 r2 n d2).toArray 26) := ⟨_, rfl⟩
  have B1 : Hid (Below w.heap.size w (w.alloc (.cells (sysL v p1 m a1 q1 m b1 r1 n d1).toArray 26))) := (Below.refl _ _).alloc (Nat.le_refl _) _
  have KA : Hid (Blk W w.heap.size 26 (sysL v p1 m a1 q1 m b1 r1 n d1)) := by rw [hW]; exact (Blk.new rfl).alloc _
  have KB : Hid (Blk W (w.heap.size + 1) 26 (sysL v p2 m a2 q2 m b2 r2 n d2)) := by
    have := Blk.new (W := w.alloc (.cells (sysL v p1 m a1 q1 m b1 r1 n d1).toArray 26)) (T := 26) (vs := sysL v p2 m a2 q2 m b2 r2 n d2) rfl
    rw [World.size_alloc] at this
    rw [hW]; exact this
  have B2 : Hid (Below w.heap.size w W) := by rw [hW]; exact B1.out.alloc B1.out.size _
  rw [← hW]
  clear hW B1
  generalize w.heap.size + 1 = sb at *
  have T1 := hide (S1.out.below B2.out)
  have T2 := hide (S2.out.below B2.out)
  have U1 := hide (H1'.out.below B2.out)
  have U2 := hide (H2'.out.below B2.out)
  have V1 := hide (X1.out.below B2.out)
  have V2 := hide (X2.out.below B2.out)
  clear S1 S2 H1' H2' X1 X2
  generalize w.heap.size = sa at KA ⊢
  go_loopg [5] (m + 1) (fun g1 vk wq => ∃ k : Nat, vk = .int .i64 (k : Int) ∧ k ≤ m ∧ m - k < g1 ∧ Hid (∀ a, wq.cell? a = W.cell? a) ∧ Hid (Below w.heap.size w wq))
  case atStart => exact ⟨0, by go_num, by omega, by omega, hide (fun _ => rfl), B2⟩
  case round =>
    clear B2
    obtain ⟨wo, rfl⟩ : ∃ wo : World, wo = wr := ⟨_, rfl⟩
    obtain ⟨k, rfl, hk, hgk, C, B⟩ := hrel
    have y1 := (C.out _).trans (KA.out.cell 1 rfl)
    have z1 := (C.out _).trans (KB.out.cell 1 rfl)
    by_cases hlk : k < m
    · have hlkz : (k : Int) < (m : Int) := by omega
      have hk0 : (0 : Int) ≤ (k : Int) := by omega
      obtain ⟨b1', o1, rfl, -, c1⟩ := T1.out (by omega)
      obtain ⟨b2', o2, rfl, -, c2⟩ := T2.out (by omega)
      have e0 : wo.cell? ⟨b1', o1 + k * 5, none⟩ = some (.int .i64 (l k).a) := (C.out _).trans (c1 k hlk 0 (by decide))
      have e1 : wo.cell? ⟨b1', o1 + k * 5 + 1, none⟩ = some (.int .i64 (l k).b) := (C.out _).trans (c1 k hlk 1 (by decide))
      have e2 : wo.cell? ⟨b1', o1 + k * 5 + 2, none⟩ = some (.int .i64 (l k).rel) := (C.out _).trans (c1 k hlk 2 (by decide))
      have e3 : wo.cell? ⟨b1', o1 + k * 5 + 3, none⟩ = some (.int .i64 (l k).cc) := (C.out _).trans (c1 k hlk 3 (by decide))
      have e4 : wo.cell? ⟨b1', o1 + k * 5 + 4, none⟩ = some (.int .i64 (l k).st) := (C.out _).trans (c1 k hlk 4 (by decide))
      have g0 : wo.cell? ⟨b2', o2 + k * 5, none⟩ = some (.int .i64 (l k).a) := (C.out _).trans (c2 k hlk 0 (by decide))
      have g1 : wo.cell? ⟨b2', o2 + k * 5 + 1, none⟩ = some (.int .i64 (l k).b) := (C.out _).trans (c2 k hlk 1 (by decide))
      have g2 : wo.cell? ⟨b2', o2 + k * 5 + 2, none⟩ = some (.int .i64 (l k).rel) := (C.out _).trans (c2 k hlk 2 (by decide))
      have g3 : wo.cell? ⟨b2', o2 + k * 5 + 3, none⟩ = some (.int .i64 (l k).cc) := (C.out _).trans (c2 k hlk 3 (by decide))
      have g4 : wo.cell? ⟨b2', o2 + k * 5 + 4, none⟩ = some (.int .i64 (l k).st) := (C.out _).trans (c2 k hlk 4 (by decide))
      clear c1 c2 T1 T2 U1 U2 V1 V2 KA KB
      go_wp2_with fail
      go_quiet (fail)
      have C2 : Hid (∀ a, (wo.drewN nq).cell? a = W.cell? a) := C.out
      have BQ : Hid (Below w.heap.size w (wo.drewN nq)) := ⟨B.out.os, B.out.tape, B.out.output, B.out.size, B.out.block⟩
      clear C B
      generalize wo.drewN nq = w9 at *
      go_wp2_with fail
      go_roundg (m - k)
      case measure => exact hgk
      case rel => exact ⟨k + 1, by go_num, by omega, by omega, C2, BQ⟩
    have hlkz : ¬ (k : Int) < (m : Int) := by omega
    clear y1 z1
    have y1 := (C.out _).trans (KA.out.cell 1 rfl)
    have z1 := (C.out _).trans (KB.out.cell 1 rfl)
    go_wp2_with fail
    go_loopg [6] (m + 1) (fun g1 vk wq => ∃ k : Nat, vk = .int .i64 (k : Int) ∧ k ≤ m ∧ m - k < g1 ∧ Hid (∀ a, wq.cell? a = W.cell? a) ∧ Hid (Below w.heap.size w wq))
    case atStart => exact ⟨0, by go_num, by omega, by omega, C, B⟩
    case round =>
      clear C B
      obtain ⟨wu, rfl⟩ : ∃ wu : World, wu = wr := ⟨_, rfl⟩
      obtain ⟨j, rfl, hj, hgj, C, B⟩ := hrel
      have y2 := (C.out _).trans (KA.out.cell 2 rfl)
      have z2 := (C.out _).trans (KB.out.cell 2 rfl)
      by_cases hlj : j < m
      · have hljz : (j : Int) < (m : Int) := by omega
        have hj0 : (0 : Int) ≤ (j : Int) := by omega
        obtain ⟨b1', o1, rfl, -, c1⟩ := U1.out (by omega)
        obtain ⟨b2', o2, rfl, -, c2⟩ := U2.out (by omega)
        have e0 := (C.out _).trans (c1 j hlj)
        have g0 := (C.out _).trans (c2 j hlj)
        clear c1 c2 T1 T2 U1 U2 V1 V2 KA KB
        go_wp2_with fail
        go_quiet (fail)
        have C2 : Hid (∀ a, (wu.drewN nq).cell? a = W.cell? a) := C.out
        have BQ : Hid (Below w.heap.size w (wu.drewN nq)) := ⟨B.out.os, B.out.tape, B.out.output, B.out.size, B.out.block⟩
        clear C B
        generalize wu.drewN nq = w9 at *
        go_wp2_with fail
        go_roundg (m - j)
        case measure => exact hgj
        case rel => exact ⟨j + 1, by go_num, by omega, by omega, C2, BQ⟩
      have hljz : ¬ (j : Int) < (m : Int) := by omega
      clear y2 z2
      have y2 := (C.out _).trans (KA.out.cell 2 rfl)
      have z2 := (C.out _).trans (KB.out.cell 2 rfl)
      go_wp2_with fail
      go_loopg [7] (n + 1) (fun g1 vk wq => ∃ k : Nat, vk = .int .i64 (k : Int) ∧ k ≤ n ∧ n - k < g1 ∧ Hid (∀ a, wq.cell? a = W.cell? a) ∧ Hid (Below w.heap.size w wq))
      case atStart => exact ⟨0, by go_num, by omega, by omega, C, B⟩
      case round =>
        clear C B
        obtain ⟨wv, rfl⟩ : ∃ wv : World, wv = wr := ⟨_, rfl⟩
        obtain ⟨i, rfl, hi, hgi, C, B⟩ := hrel
        have y3 := (C.out _).trans (KA.out.cell 3 rfl)
        have z3 := (C.out _).trans (KB.out.cell 3 rfl)
        by_cases hli : i < n
        · have hliz : (i : Int) < (n : Int) := by omega
          have hi0 : (0 : Int) ≤ (i : Int) := by omega
          obtain ⟨b1', o1, rfl, c1⟩ := V1.out (by omega)
          obtain ⟨b2', o2, rfl, c2⟩ := V2.out (by omega)
          have e0 := (C.out _).trans (c1 i hli)
          have g0 := (C.out _).trans (c2 i hli)
          clear c1 c2 T1 T2 U1 U2 V1 V2 KA KB
          go_wp2_with fail
          go_quiet (fail)
          have C2 : Hid (∀ a, (wv.drewN nq).cell? a = W.cell? a) := C.out
          have BQ : Hid (Below w.heap.size w (wv.drewN nq)) := ⟨B.out.os, B.out.tape, B.out.output, B.out.size, B.out.block⟩
          clear C B
          generalize wv.drewN nq = w9 at *
          go_wp2_with fail
          go_roundg (n - i)
          case measure => exact hgi
          case rel => exact ⟨i + 1, by go_num, by omega, by omega, C2, BQ⟩
        have hliz : ¬ (i : Int) < (n : Int) := by omega
        clear y3 z3
        have y3 := (C.out _).trans (KA.out.cell 3 rfl)
        have z3 := (C.out _).trans (KB.out.cell 3 rfl)
        go_wp2_with fail
        go_ret
        exact ⟨rfl, B.out⟩
theorem sys_blk (w : World) (v : Int) (q1 : Option Addr) (n1 c1 : Nat) (q2 : Option Addr) (n2 c2 : Nat) (q3 : Option Addr) (n3 c3 : Nat) : Blk (w.alloc (.cells #[.int .i64 v, .slice q1 n1 c1, .slice q2 n2 c2, .slice q3 n3 c3] 26)) w.heap.size 26 (sysL v q1 n1 c1 q2 n2 c2 q3 n3 c3) := Blk.new rfl
theorem aw_row (w : World) : SRow (w.alloc (.cells #[.int .i64 0, .int .i64 (-1), .int .i64 0, .int .i64 5, .int .i64 0, .int .i64 1, .int .i64 0, .int .i64 2, .int .i64 10, .int .i64 3] 40)) (some ⟨w.heap.size, 0, none⟩) 2 5 (cnC awL) := fun _ => by
  refine ⟨w.heap.size, 0, rfl, by simp, fun i hi j hj => ?_⟩
  have e := heap_alloc_new w (.cells #[.int .i64 0, .int .i64 (-1), .int .i64 0, .int .i64 5, .int .i64 0, .int .i64 1, .int .i64 0, .int .i64 2, .int .i64 10, .int .i64 3] 40)
  unfold World.cell?
  rw [e]
  rcases (show i = 0 ∨ i = 1 by omega) with rfl | rfl <;> rcases (show j = 0 ∨ j = 1 ∨ j = 2 ∨ j = 3 ∨ j = 4 by omega) with rfl | rfl | rfl | rfl | rfl <;> rfl
set_option maxHeartbeats 4000000 in
theorem cawake_any (hS : KSo 10) (w : World) :
    Calls Try.prog 13 #[] w fun e w' => e = .returned (.bool true) ∧ Below w.heap.size w w' := by
  have H1 := hide (hS 2 _ 2 2 awL _ (aw_row w) (by omega) (by omega))
  have B1 : Hid (Below w.heap.size w (w.alloc (.cells #[.int .i64 0, .int .i64 (-1), .int .i64 0, .int .i64 5, .int .i64 0, .int .i64 1, .int .i64 0, .int .i64 2, .int .i64 10, .int .i64 3] 40))) := (Below.refl _ _).alloc (Nat.le_refl _) _
  clear hS
  go_enter Try.func13, Try.ntmps13
  go_wp2_with fail
  refine H1.out.mono ?_
  rintro e w1 ⟨hy, -, hB⟩
  obtain ⟨q1, c1, q2, c2, q3, c3, rfl, -, -, hb, hx⟩ := hy aw_err
  have B2 : Hid (Below w.heap.size w w1) := B1.out.trans (hB.mono B1.out.size)
  obtain ⟨b2, o2, rfl, hb2, hbc⟩ := hb (by decide)
  obtain ⟨b3, o3, rfl, hxc⟩ := hx (by decide)
  rw [show (2 : Int).toNat = 2 from rfl] at *
  have hb3 : b3 < w1.heap.size := World.block_lt_of_cell? _ _ (hxc 0 (by decide))
  have v0 : w1.cell? ⟨b3, o3, none⟩ = some (.int .i64 5) := (hxc 0 (by decide)).trans (by rw [aw_val (by decide)]; rfl)
  have v1 : w1.cell? ⟨b3, o3 + 1, none⟩ = some (.int .i64 15) := (hxc 1 (by decide)).trans (by rw [aw_val (by decide)]; rfl)
  have h1 : w1.cell? ⟨b2, o2 + 1, none⟩ = some (.bool true) := (hbc 1 (by decide)).trans (by rw [aw_acc (by decide)])
  clear hy hbc hxc hb hx hB B1 H1
  have y0 := sys_blk w1 2 q1 2 c1 (some ⟨b2, o2, none⟩) 2 c2 (some ⟨b3, o3, none⟩) 2 c3
  have L2 := hide ((Below.refl w1.heap.size w1).alloc (Nat.le_refl _) (.cells #[.int .i64 2, .slice q1 2 c1, .slice (some ⟨b2, o2, none⟩) 2 c2, .slice (some ⟨b3, o3, none⟩) 2 c3] 26))
  go_wp2_with fail
  have B3 : Hid (Below w.heap.size w (w1.alloc (.cells #[.int .i64 2, .slice q1 2 c1, .slice (some ⟨b2, o2, none⟩) 2 c2, .slice (some ⟨b3, o3, none⟩) 2 c3] 26))) := B2.out.alloc B2.out.size _
  go_ret
  exact ⟨rfl, B3.out⟩
set_option maxHeartbeats 4000000 in
theorem craw_core (hS : KSo 10) (vars : Int) (p : Option Addr) (m c : Nat) (l : Nat → Cn) (w : World) (hp : SRow w p m 5 (cnC l)) (hc : m ≤ c) :
    Calls Try.prog 3 #[.int .i64 vars, .slice p m c] w fun e w' => e = .returned (.bool true) ∧ Below w.heap.size w w' := by
  by_cases hb : 40 < m
  · have hz : (40 : Int) < (m : Int) := by omega
    clear hS hp
    go_enter Try.func3, Try.ntmps3
    go_wp2_with fail
    go_ret
    exact ⟨rfl, Below.refl _ _⟩
  have hz : ¬ (40 : Int) < (m : Int) := by omega
  have T1 := hide (hS vars p m c l w hp hc (by omega))
  have T2 := hide (fun w' (h : Below w.heap.size w w') => rSo vars p m c l w' (hp.below h) hc (by omega))
  have A := hide (fun w' => cawake_any hS w')
  have V : Hid (erS vars m l = 0 → vars.toNat ≤ 64) := fun h => by
    by_cases q : vars < 0 ∨ 64 < vars
    · rw [erS_low q] at h; omega
    · omega
  clear hS hp
  go_enter Try.func3, Try.ntmps3
  go_wp2_with fail
  refine T1.out.mono ?_
  rintro e w1 ⟨hy, hn, hB⟩
  have B1 := hide hB
  clear T1 hB
  by_cases h0 : erS vars m l = 0
  · obtain ⟨q1, c1, q2, c2, q3, c3, rfl, -, s1, b1, x1⟩ := hy h0
    have S1 := hide s1
    have BB1 := hide b1
    have X1 := hide x1
    clear hy hn s1 b1 x1
    have B1 : Hid (Below w.heap.size w (w1.alloc (.cells #[.int .i64 vars, .slice q1 m c1, .slice q2 m c2, .slice q3 vars.toNat c3] 26))) := B1.out.alloc B1.out.size _
    have K2 := hide (T2.out _ B1.out)
    have LA := hide ((Below.refl w1.heap.size w1).alloc (Nat.le_refl _) (.cells #[.int .i64 vars, .slice q1 m c1, .slice q2 m c2, .slice q3 vars.toNat c3] 26))
    have S1 := hide (S1.out.below LA.out)
    have BB1 := hide (BB1.out.below LA.out)
    have X1 := hide (X1.out.below LA.out)
    have KA := hide (sys_blk w1 vars q1 m c1 q2 m c2 q3 vars.toNat c3)
    clear T2 LA
    go_wp2_with fail
    refine K2.out.mono ?_
    generalize w1.alloc (.cells #[.int .i64 vars, .slice q1 m c1, .slice q2 m c2, .slice q3 vars.toNat c3] 26) = w5 at *
    generalize w1.heap.size = sb at *
    rintro e w2 ⟨hy, hn, hB⟩
    have KB : Hid (Blk w2 sb 26 (sysL vars q1 m c1 q2 m c2 q3 vars.toNat c3)) := (hB.block sb KA.out.lt).trans KA.out
    have hlt : sb < w2.heap.size := KB.out.lt
    obtain ⟨p1, d1, p2, d2, p3, d3, rfl, -, s2, b2, x2⟩ := hy h0
    have B2 : Hid (Below w.heap.size w w2) := B1.out.trans (hB.mono B1.out.size)
    have y0 := KB.out.cell 0 rfl
    have y1 := KB.out.cell 1 rfl
    have y2 := KB.out.cell 2 rfl
    have y3 := KB.out.cell 3 rfl
    have B2 : Hid (Below w.heap.size w (w2.alloc (.cells #[.int .i64 vars, .slice p1 m d1, .slice p2 m d2, .slice p3 vars.toNat d3] 26))) := B2.out.alloc B2.out.size _
    have LB := hide ((Below.refl w2.heap.size w2).alloc (Nat.le_refl _) (.cells #[.int .i64 vars, .slice p1 m d1, .slice p2 m d2, .slice p3 vars.toNat d3] 26))
    have SM := hide (rSame_any vars q1 p1 q2 p2 q3 p3 m vars.toNat c1 d1 c2 d2 c3 d3 l _ _ (w2.alloc (.cells #[.int .i64 vars, .slice p1 m d1, .slice p2 m d2, .slice p3 vars.toNat d3] 26)) ((S1.out.below hB).below LB.out) (s2.below LB.out) ((BB1.out.below hB).below LB.out) (b2.below LB.out) ((X1.out.below hB).below LB.out) (x2.below LB.out) (by omega) (by have := V.out h0; omega))
    clear hy hn s2 b2 x2 hB B1 K2 S1 BB1 X1 V
    go_wp2_with fail
    refine SM.out.mono ?_
    rintro e w3 ⟨rfl, hB⟩
    have B3 : Hid (Below w.heap.size w w3) := B2.out.trans (hB.mono B2.out.size)
    clear hB B2 SM
    go_wp2_with fail
    refine (A.out w3).mono ?_
    rintro e w4 ⟨rfl, h⟩
    have B5 : Hid (Below w.heap.size w w4) := B3.out.trans (h.mono B3.out.size)
    clear h B3
    go_wp2_with fail
    go_ret
    exact ⟨rfl, B5.out⟩
  · obtain rfl := hn h0
    clear hy hn
    have h0' := hide h0
    clear h0
    generalize hE : erS vars m l = er at *
    replace hE := hide hE
    have B1 : Hid (Below w.heap.size w (w1.alloc (.cells #[.int .i64 0, .slice none 0 0, .slice none 0 0, .slice none 0 0] 26))) := B1.out.alloc B1.out.size _
    have K2 := hide (T2.out _ B1.out)
    have KA := hide (sys_blk w1 0 none 0 0 none 0 0 none 0 0)
    clear T2
    go_wp2_with fail
    refine K2.out.mono ?_
    generalize w1.alloc (.cells #[.int .i64 0, .slice none 0 0, .slice none 0 0, .slice none 0 0] 26) = w5 at *
    generalize w1.heap.size = sb at *
    rintro e w2 ⟨hy, hn, hB⟩
    have KB : Hid (Blk w2 sb 26 (sysL 0 none 0 0 none 0 0 none 0 0)) := (hB.block sb KA.out.lt).trans KA.out
    have hlt : sb < w2.heap.size := KB.out.lt
    have := hn (by rw [hE.out]; exact h0'.out)
    rw [hE.out] at this
    subst this
    have B2 : Hid (Below w.heap.size w w2) := B1.out.trans (hB.mono B1.out.size)
    have y0 := KB.out.cell 0 rfl
    have y1 := KB.out.cell 1 rfl
    have y2 := KB.out.cell 2 rfl
    have y3 := KB.out.cell 3 rfl
    have B2 : Hid (Below w.heap.size w (w2.alloc (.cells #[.int .i64 0, .slice none 0 0, .slice none 0 0, .slice none 0 0] 26))) := B2.out.alloc B2.out.size _
    have SM := hide (rSame_any 0 none none none none none none 0 0 0 0 0 0 0 0 l (fun _ => false) (fun _ => 0) (w2.alloc (.cells #[.int .i64 0, .slice none 0 0, .slice none 0 0, .slice none 0 0] 26)) (fun h => absurd h (by omega)) (fun h => absurd h (by omega)) (fun h => absurd h (by omega)) (fun h => absurd h (by omega)) (fun h => absurd h (by omega)) (fun h => absurd h (by omega)) (by omega) (by omega))
    clear hy hn hB B1 K2 V
    go_wp2_with fail
    refine SM.out.mono ?_
    rintro e w3 ⟨rfl, hB⟩
    have B3 : Hid (Below w.heap.size w w3) := B2.out.trans (hB.mono B2.out.size)
    clear hB B2 SM
    go_wp2_with fail
    refine (A.out w3).mono ?_
    rintro e w4 ⟨rfl, h⟩
    have B5 : Hid (Below w.heap.size w w4) := B3.out.trans (h.mono B3.out.size)
    clear h B3
    go_wp2_with fail
    go_ret
    exact ⟨rfl, B5.out⟩
end Go.Proofs.Ytdoncogkepopiaa
