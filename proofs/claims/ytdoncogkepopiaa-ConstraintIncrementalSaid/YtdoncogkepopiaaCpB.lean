/- What bounds of package constraint returns: the bounds that a constraint demands, in new memory; slices.Concat of two rows of bounds; no condition but on sizes. -/
import Derived.Test.YtdoncogkepopiaaCpA
import Derived.Test.YtdoncogkepopiaaCoQ
import Derived.Test.YtdoncogkepopiaaCatR
import Derived.Test.YtdoncogkepopiaaMix
namespace Go.Proofs.Ytdoncogkepopiaa
open Go.RowKit Go.Sort
set_option linter.unusedVariables false
set_option linter.unusedSimpArgs false

/-- A list of bounds in memory. -/
def bdC (f : Nat → Cn) (i j : Nat) : Value := match j with
  | 0 => .int .i64 ((f i).a + 1)
  | 1 => .int .i64 ((f i).b + 1)
  | _ => .int .i64 (f i).cc
theorem bd_one (f : Nat → Cn) (i r : Nat) : (bdC f i r).oneCell' = true := by
  unfold bdC
  split <;> rfl
theorem bd_cat (n0 : Nat) (f g : Nat → Cn) : catV n0 (bdC f) (bdC g) = bdC (catN n0 f g) := by
  funext i j
  unfold catV bdC catN
  by_cases h : i < n0
  · simp only [if_pos h]
  · simp only [if_neg h]
theorem brow1 (w : World) (f : Nat → Cn) (p q r : Int) (h : f 0 = ⟨p - 1, q - 1, 0, r, 0⟩) : SRow (w.alloc (.cells #[.int .i64 p, .int .i64 q, .int .i64 r] 67)) (some ⟨w.heap.size, 0, none⟩) 1 3 (bdC f) := fun _ => by
  refine ⟨w.heap.size, 0, rfl, by simp, fun i hi j hj => ?_⟩
  have e := heap_alloc_new w (.cells #[.int .i64 p, .int .i64 q, .int .i64 r] 67)
  unfold World.cell?
  rw [e]
  obtain rfl : i = 0 := by omega
  rcases (show j = 0 ∨ j = 1 ∨ j = 2 by omega) with rfl | rfl | rfl <;> simp [bdC, h]
theorem brow2 (w : World) (f : Nat → Cn) (p q r p' q' r' : Int) (h : f 0 = ⟨p - 1, q - 1, 0, r, 0⟩) (h' : f 1 = ⟨p' - 1, q' - 1, 0, r', 0⟩) : SRow (w.alloc (.cells #[.int .i64 p, .int .i64 q, .int .i64 r, .int .i64 p', .int .i64 q', .int .i64 r'] 67)) (some ⟨w.heap.size, 0, none⟩) 2 3 (bdC f) := fun _ => by
  refine ⟨w.heap.size, 0, rfl, by simp, fun i hi j hj => ?_⟩
  have e := heap_alloc_new w (.cells #[.int .i64 p, .int .i64 q, .int .i64 r, .int .i64 p', .int .i64 q', .int .i64 r'] 67)
  unfold World.cell?
  rw [e]
  rcases (show i = 0 ∨ i = 1 by omega) with rfl | rfl <;> rcases (show j = 0 ∨ j = 1 ∨ j = 2 by omega) with rfl | rfl | rfl <;> simp [bdC, h, h']
set_option maxHeartbeats 8000000 in
set_option maxRecDepth 100000 in
theorem bounds_any (x : Cn) (w : World) (hx : okC 64 x) :
    Calls Try.prog 35 #[cnU x] w fun e w' => ∃ b, e = .returned (.slice (some ⟨b, 0, none⟩) (boN x) (boN x)) ∧ w.heap.size ≤ b ∧ SRow w' (some ⟨b, 0, none⟩) (boN x) 3 (bdC (boF x)) ∧ Grew w w' := by
  have F0 : Hid (x.rel = 0 → boN x = 1 ∧ boF x 0 = ⟨x.a + 1 - 1, x.b + 1 - 1, 0, x.cc, 0⟩) := fun h => by
    refine ⟨by unfold boN; rw [if_pos h], ?_⟩
    unfold boF bo1
    rw [if_pos h, show x.a + 1 - 1 = x.a by omega, show x.b + 1 - 1 = x.b by omega]
  have F1 : Hid (x.rel = 1 → boN x = 1 ∧ boF x 0 = ⟨x.b + 1 - 1, x.a + 1 - 1, 0, -x.cc, 0⟩) := fun h => by
    refine ⟨by unfold boN; rw [if_neg (by omega), if_pos h], ?_⟩
    unfold boF bo2
    rw [if_neg (by omega), if_pos h, show x.a + 1 - 1 = x.a by omega, show x.b + 1 - 1 = x.b by omega]
  have F2 : Hid (¬ x.rel = 0 → ¬ x.rel = 1 → boN x = 2 ∧ boF x 0 = ⟨x.a + 1 - 1, x.b + 1 - 1, 0, x.cc, 0⟩ ∧ boF x 1 = ⟨x.b + 1 - 1, x.a + 1 - 1, 0, -x.cc, 0⟩) := fun h h1 => by
    refine ⟨by unfold boN; rw [if_neg h, if_neg h1], ?_, ?_⟩
    · unfold boF bo1
      rw [if_neg h, if_neg h1, if_pos rfl, show x.a + 1 - 1 = x.a by omega, show x.b + 1 - 1 = x.b by omega]
    · unfold boF bo2
      rw [if_neg h, if_neg h1, if_neg (by decide), show x.a + 1 - 1 = x.a by omega, show x.b + 1 - 1 = x.b by omega]
  obtain ⟨⟨⟨ha1, ha2⟩, hb1, hb2⟩, ⟨hr1, hr2⟩, ⟨hc1, hc2⟩, hs1, hs2⟩ := hx
  generalize boF x = bf at *
  generalize boN x = bn at *
  obtain ⟨x0, x1, x2, x3, x4⟩ := x
  dsimp only at *
  have wa : IntKind.i64.wrap (x0 + 1) = x0 + 1 := wr (by omega) (by omega)
  have wb : IntKind.i64.wrap (x1 + 1) = x1 + 1 := wr (by omega) (by omega)
  have wc : IntKind.i64.wrap (-x3) = -x3 := wr (by omega) (by omega)
  clear hs1 hs2
  go_enter Try.func35, Try.ntmps35
  go_wp2_with fail
  refine name_world fun w1 h1 => ?_
  have G1 : Grew w w1 := by
    rw [h1]
    repeat' (first | (with_reducible exact Grew.refl _) | (with_reducible refine Grew.setCell ?_ ?_ _) | (with_reducible refine Grew.drewN ?_ _) | (with_reducible refine Grew.reD ?_ _) | (with_reducible refine Grew.alloc ?_ _) | (with_reducible refine Grew.trans ?_ G1.out) | (dsimp only; omega))
  have B1_0 : Blk w1 (w.heap.size) 40 [.int .i64 x0, .int .i64 x1, .int .i64 x2, .int .i64 x3, .int .i64 x4] := by (rw [h1]; repeat' (first | (with_reducible assumption) | ((with_reducible refine Blk.new ?_); (first | (with_reducible rfl) | (simp only [World.size_alloc, World.size_setCell, size_drewN]; done))) | (with_reducible refine Blk.alloc ?_ _) | (with_reducible refine Blk.drewN ?_ _) | (with_reducible refine Blk.drew ?_) | (refine Blk.other ?_ (by omega) _) | fail))
  have z1 := G1.size
  replace G1 := hide G1
  clear h1
  have t1_0 := B1_0.lt
  have d1_0_0 := B1_0.cell 0 rfl
  have e1_0_0 := B1_0.free 0
  have d1_0_1 := B1_0.cell 1 rfl
  have e1_0_1 := B1_0.free 1
  have d1_0_2 := B1_0.cell 2 rfl
  have e1_0_2 := B1_0.free 2
  have d1_0_3 := B1_0.cell 3 rfl
  have e1_0_3 := B1_0.free 3
  have d1_0_4 := B1_0.cell 4 rfl
  have e1_0_4 := B1_0.free 4
  have g1_0_0 := fun m os => (B1_0.grow m os).cell 0 rfl
  have g1_0_1 := fun m os => (B1_0.grow m os).cell 1 rfl
  have g1_0_2 := fun m os => (B1_0.grow m os).cell 2 rfl
  have g1_0_3 := fun m os => (B1_0.grow m os).cell 3 rfl
  have g1_0_4 := fun m os => (B1_0.grow m os).cell 4 rfl
  refine wp_region_calm (by kernel_rfl) (by kernel_rfl) ?_
  repeat (first | (refine lex_skip rfl (by rfl) ?_) | (refine lex_calm rfl (by rfl) (fun K hK => ?_); go_simp; first | (refine hK _ ?_; clear hK K) | (apply Exists.intro; refine ⟨fun _ _ => ?_, hK _ ?_⟩; (fail); clear hK K)))
  refine lex_nil ?_
  intro w2 G2
  have B2_0 : Blk w2 (w.heap.size) 40 [.int .i64 x0, .int .i64 x1, .int .i64 x2, .int .i64 x3, .int .i64 x4] := B1_0.grew G2
  have z2 := G2.size
  replace G2 := hide G2
  have t2_0 := B2_0.lt
  have d2_0_0 := B2_0.cell 0 rfl
  have e2_0_0 := B2_0.free 0
  have d2_0_1 := B2_0.cell 1 rfl
  have e2_0_1 := B2_0.free 1
  have d2_0_2 := B2_0.cell 2 rfl
  have e2_0_2 := B2_0.free 2
  have d2_0_3 := B2_0.cell 3 rfl
  have e2_0_3 := B2_0.free 3
  have d2_0_4 := B2_0.cell 4 rfl
  have e2_0_4 := B2_0.free 4
  go_wp2_with fail
  have g2_0_0 := fun m os => (B2_0.grow m os).cell 0 rfl
  have g2_0_1 := fun m os => (B2_0.grow m os).cell 1 rfl
  have g2_0_2 := fun m os => (B2_0.grow m os).cell 2 rfl
  have g2_0_3 := fun m os => (B2_0.grow m os).cell 3 rfl
  have g2_0_4 := fun m os => (B2_0.grow m os).cell 4 rfl
  refine wp_region_made [⟨11, 13, 5, 67, [.int .i64 0, .int .i64 0, .int .i64 0], [.int .i64 (x0 + 1), .int .i64 (x1 + 1), .int .i64 x3]⟩, ⟨12, 14, 6, 67, [.int .i64 0, .int .i64 0, .int .i64 0], [.int .i64 (x1 + 1), .int .i64 (x0 + 1), .int .i64 (-x3)]⟩] (by kernel_rfl) (by kernel_rfl) (by simp [madeSlots]) ?_
  repeat (first | (refine lex_skip rfl (by rfl) ?_) | (refine lex_calm rfl (by rfl) (fun K hK => ?_); go_simp; first | (refine hK _ ?_; clear hK K) | (apply Exists.intro; refine ⟨fun _ _ => ?_, hK _ ?_⟩; (fail); clear hK K)))
  refine lex_alloc (m := ⟨11, 13, 5, 67, [.int .i64 0, .int .i64 0, .int .i64 0], [.int .i64 (x0 + 1), .int .i64 (x1 + 1), .int .i64 x3]⟩) (by kernel_rfl) (by simp) (by rfl) rfl ?_ ?_
  · intro ev w
    go_simp
  repeat (first | (refine lex_skip rfl (by rfl) ?_) | (refine lex_calm rfl (by rfl) (fun K hK => ?_); go_simp; first | (refine hK _ ?_; clear hK K) | (apply Exists.intro; refine ⟨fun _ _ => ?_, hK _ ?_⟩; (fail); clear hK K)))
  refine lex_alloc (m := ⟨12, 14, 6, 67, [.int .i64 0, .int .i64 0, .int .i64 0], [.int .i64 (x1 + 1), .int .i64 (x0 + 1), .int .i64 (-x3)]⟩) (by kernel_rfl) (by simp) (by rfl) rfl ?_ ?_
  · intro ev w
    go_simp
  repeat (first | (refine lex_skip rfl (by rfl) ?_) | (refine lex_calm rfl (by rfl) (fun K hK => ?_); go_simp; first | (refine hK _ ?_; clear hK K) | (apply Exists.intro; refine ⟨fun _ _ => ?_, hK _ ?_⟩; (fail); clear hK K)))
  refine lex_store (m := ⟨11, 13, 5, 67, [.int .i64 0, .int .i64 0, .int .i64 0], [.int .i64 (x0 + 1), .int .i64 (x1 + 1), .int .i64 x3]⟩) (by kernel_rfl) (by simp) (by rfl) rfl ?_ ?_
  · intro vs w b hv hB
    have d0 := hB.cell 0 rfl
    have e0 := hB.free 0
    have d1 := hB.cell 1 rfl
    have e1 := hB.free 1
    have d2 := hB.cell 2 rfl
    have e2 := hB.free 2
    simp only [] at hv
    simp [go_sem, evS, madeSlots, List.lookup, setAll, *]
  repeat (first | (refine lex_skip rfl (by rfl) ?_) | (refine lex_calm rfl (by rfl) (fun K hK => ?_); go_simp; first | (refine hK _ ?_; clear hK K) | (apply Exists.intro; refine ⟨fun _ _ => ?_, hK _ ?_⟩; (fail); clear hK K)))
  refine lex_store (m := ⟨12, 14, 6, 67, [.int .i64 0, .int .i64 0, .int .i64 0], [.int .i64 (x1 + 1), .int .i64 (x0 + 1), .int .i64 (-x3)]⟩) (by kernel_rfl) (by simp) (by rfl) rfl ?_ ?_
  · intro vs w b hv hB
    have d0 := hB.cell 0 rfl
    have e0 := hB.free 0
    have d1 := hB.cell 1 rfl
    have e1 := hB.free 1
    have d2 := hB.cell 2 rfl
    have e2 := hB.free 2
    simp only [] at hv
    simp [go_sem, evS, madeSlots, List.lookup, setAll, *]
  repeat (first | (refine lex_skip rfl (by rfl) ?_) | (refine lex_calm rfl (by rfl) (fun K hK => ?_); go_simp; first | (refine hK _ ?_; clear hK K) | (apply Exists.intro; refine ⟨fun _ _ => ?_, hK _ ?_⟩; (fail); clear hK K)))
  refine lex_nil ?_
  rintro vs w3 ⟨G3, hb, hne⟩
  obtain ⟨b3_0, hv0, s3_0, K3_0⟩ := hb ⟨11, 13, 5, 67, [.int .i64 0, .int .i64 0, .int .i64 0], [.int .i64 (x0 + 1), .int .i64 (x1 + 1), .int .i64 x3]⟩ (by simp) rfl
  obtain ⟨b3_1, hv1, s3_1, K3_1⟩ := hb ⟨12, 14, 6, 67, [.int .i64 0, .int .i64 0, .int .i64 0], [.int .i64 (x1 + 1), .int .i64 (x0 + 1), .int .i64 (-x3)]⟩ (by simp) rfl
  have hn3_0_1 : b3_0 ≠ b3_1 := fun e => hne ⟨11, 13, 5, 67, [.int .i64 0, .int .i64 0, .int .i64 0], [.int .i64 (x0 + 1), .int .i64 (x1 + 1), .int .i64 x3]⟩ (by simp) ⟨12, 14, 6, 67, [.int .i64 0, .int .i64 0, .int .i64 0], [.int .i64 (x1 + 1), .int .i64 (x0 + 1), .int .i64 (-x3)]⟩ (by simp) (by show (11 : Nat) ≠ 12; decide) rfl rfl (hv0.trans (e ▸ hv1.symm))
  simp only [fillS, madeSlots, List.map_cons, List.map_nil, List.foldl_cons, List.foldl_nil, hv0, hv1]
  clear hb hne hv0 hv1 vs
  have B3_0 : Blk w3 (w.heap.size) 40 [.int .i64 x0, .int .i64 x1, .int .i64 x2, .int .i64 x3, .int .i64 x4] := B2_0.grew G3
  have B3_1 : Blk w3 b3_0 67 [.int .i64 (x0 + 1), .int .i64 (x1 + 1), .int .i64 x3] := K3_0
  have B3_2 : Blk w3 b3_1 67 [.int .i64 (x1 + 1), .int .i64 (x0 + 1), .int .i64 (-x3)] := K3_1
  clear K3_0 K3_1
  have z3 := G3.size
  replace G3 := hide G3
  have t3_0 := B3_0.lt
  have d3_0_0 := B3_0.cell 0 rfl
  have e3_0_0 := B3_0.free 0
  have d3_0_1 := B3_0.cell 1 rfl
  have e3_0_1 := B3_0.free 1
  have d3_0_2 := B3_0.cell 2 rfl
  have e3_0_2 := B3_0.free 2
  have d3_0_3 := B3_0.cell 3 rfl
  have e3_0_3 := B3_0.free 3
  have d3_0_4 := B3_0.cell 4 rfl
  have e3_0_4 := B3_0.free 4
  have t3_1 := B3_1.lt
  have d3_1_0 := B3_1.cell 0 rfl
  have e3_1_0 := B3_1.free 0
  have d3_1_1 := B3_1.cell 1 rfl
  have e3_1_1 := B3_1.free 1
  have d3_1_2 := B3_1.cell 2 rfl
  have e3_1_2 := B3_1.free 2
  have t3_2 := B3_2.lt
  have d3_2_0 := B3_2.cell 0 rfl
  have e3_2_0 := B3_2.free 0
  have d3_2_1 := B3_2.cell 1 rfl
  have e3_2_1 := B3_2.free 1
  have d3_2_2 := B3_2.cell 2 rfl
  have e3_2_2 := B3_2.free 2
  go_simp
  by_cases h0 : x2 = 0
  · obtain ⟨n1, f1⟩ := F0.out h0
    subst h0 n1
    have S := hide (brow1 w3 bf _ _ _ f1)
    have GG : Hid (Grew w (w3.alloc (.cells #[.int .i64 (x0 + 1), .int .i64 (x1 + 1), .int .i64 x3] 67))) := by
      refine hide ?_
      repeat' (first | (with_reducible exact Grew.refl _) | (with_reducible refine Grew.setCell ?_ ?_ _) | (with_reducible refine Grew.drewN ?_ _) | (with_reducible refine Grew.reD ?_ _) | (with_reducible refine Grew.alloc ?_ _) | (with_reducible refine Grew.trans ?_ G3.out) | (with_reducible refine Grew.trans ?_ G2.out) | (with_reducible refine Grew.trans ?_ G1.out) | (dsimp only; omega))
    have SZ : Hid (w.heap.size ≤ w3.heap.size) := by
      refine hide ?_
      omega
    clear F0 F1 F2 f1
    go_wp2_with fail
    go_ret
    exact ⟨_, rfl, SZ.out, S.out, GG.out⟩
  have d0 : (x2 == 0) = false := by simpa using h0
  by_cases h1 : x2 = 1
  · obtain ⟨n1, f1⟩ := F1.out h1
    subst h1 n1
    have S := hide (brow1 w3 bf _ _ _ f1)
    have GG : Hid (Grew w (w3.alloc (.cells #[.int .i64 (x1 + 1), .int .i64 (x0 + 1), .int .i64 (-x3)] 67))) := by
      refine hide ?_
      repeat' (first | (with_reducible exact Grew.refl _) | (with_reducible refine Grew.setCell ?_ ?_ _) | (with_reducible refine Grew.drewN ?_ _) | (with_reducible refine Grew.reD ?_ _) | (with_reducible refine Grew.alloc ?_ _) | (with_reducible refine Grew.trans ?_ G3.out) | (with_reducible refine Grew.trans ?_ G2.out) | (with_reducible refine Grew.trans ?_ G1.out) | (dsimp only; omega))
    have SZ : Hid (w.heap.size ≤ w3.heap.size) := by
      refine hide ?_
      omega
    clear F0 F1 F2 f1
    go_wp2_with fail
    go_ret
    exact ⟨_, rfl, SZ.out, S.out, GG.out⟩
  have d1 : (x2 == 1) = false := by simpa using h1
  obtain ⟨n1, f1, f2⟩ := F2.out h0 h1
  subst n1
  have S := hide (brow2 w3 bf _ _ _ _ _ _ f1 f2)
  have GG : Hid (Grew w (w3.alloc (.cells #[.int .i64 (x0 + 1), .int .i64 (x1 + 1), .int .i64 x3, .int .i64 (x1 + 1), .int .i64 (x0 + 1), .int .i64 (-x3)] 67))) := by
    refine hide ?_
    repeat' (first | (with_reducible exact Grew.refl _) | (with_reducible refine Grew.setCell ?_ ?_ _) | (with_reducible refine Grew.drewN ?_ _) | (with_reducible refine Grew.reD ?_ _) | (with_reducible refine Grew.alloc ?_ _) | (with_reducible refine Grew.trans ?_ G3.out) | (with_reducible refine Grew.trans ?_ G2.out) | (with_reducible refine Grew.trans ?_ G1.out) | (dsimp only; omega))
  have SZ : Hid (w.heap.size ≤ w3.heap.size) := by
    refine hide ?_
    omega
  clear F0 F1 F2 f1 f2 h0 h1
  go_wp2_with fail
  go_ret
  exact ⟨_, rfl, SZ.out, S.out, GG.out⟩
theorem Below.by {B : Nat} {w0 w w' : World} {base size n : Nat} {e : TypeId} {v : Value} {xs : List Value} (h : Below B w0 w) (ho : w.ownsRow base e size v n xs) (g : w.grownBy w' v.ownBlock) (hb : B ≤ base) (hB : B ≤ w0.heap.size) : Below B w0 w' :=
  Below.grown h g (Nat.le_trans hB h.size) (fun j hj => Nat.le_trans hb (ho.lt _ hj).1)
theorem info_bd : (Try.prog.info? 67).map (fun i => (i.zero, i.size, i.bytes)) = some (some (.agg #[.int .i64 0, .int .i64 0, .int .i64 0]), 3, 24) := by kernel_rfl
theorem info_partsB {i : Option TypeInfo} {z : Value} {n m : Nat} (h : i.map (fun i => (i.zero, i.size, i.bytes)) = some (some z, n, m)) : ∃ j, i = some j ∧ j.zero = some z ∧ j.size = n ∧ j.bytes = m := by
  cases i with
  | none => simp at h
  | some j => simp at h; exact ⟨j, rfl, h.1, h.2.1, h.2.2⟩
set_option maxRecDepth 20000 in
set_option maxHeartbeats 1000000 in
theorem bGrow_nil (n : Nat) (w : World) (hn : n ≤ 100000) : Calls Try.prog 38 #[.slice none 0 0, .int .i64 (n : Int)] w fun e w' => ∃ v, e = .returned v ∧ w'.ownsRow w.heap.size 67 3 v 0 [] ∧ Grew w w' := by
  obtain ⟨i0, hi, hz0, hz1, hz2⟩ := info_partsB info_bd
  by_cases h0 : n = 0
  · subst h0
    go_enter Try.func38, Try.ntmps38
    go_wp2
    go_ret
    exact ⟨_, rfl, World.ownsRow_nil _ _ _ _, Grew.refl _⟩
  · have hpos : 0 < n := by omega
    have hposz : 0 < (n : Int) := by omega
    have hneg : ¬ (n : Int) < 0 := by omega
    go_enter Try.func38, Try.ntmps38
    go_wp2_with (at_builtin; refine wpList_append_zeros _ rfl _ _ 62 3 rfl 67 i0 _ 3 24 Try.underlying62 Try.underlying3 hi hz0 hz1 hz2 rfl (by decide) n rfl rfl hpos (by omega) (by omega) (by decide) ?_; intro c' w1 hown hcn G1)
    go_ret
    exact ⟨_, rfl, hown, G1⟩
def sm2 (m0 m1 : Nat) : Nat → Nat
  | 0 => 0
  | 1 => m0
  | _ => m0 + m1
def cat2 (g0 g1 : Nat → Cn) (m0 m1 : Nat) : Nat → List Value
  | 0 => []
  | 1 => flat m0 3 (bdC g0)
  | _ => flat m0 3 (bdC g0) ++ flat m1 3 (bdC g1)
/-- The row's address has no spot. -/
def Plain (p : Option Addr) : Prop := ∀ q, p = some q → q.spot = none
set_option maxRecDepth 20000 in
set_option maxHeartbeats 1000000 in
theorem bConcat_two (sb : Nat) (p0 p1 : Option Addr) (m0 m1 c0 c1 : Nat) (g0 g1 : Nat → Cn) (w : World) (hS : Blk w sb 62 [.slice p0 m0 c0, .slice p1 m1 c1]) (h0 : m0 ≤ 10000) (h1 : m1 ≤ 10000) (q0 : Plain p0) (q1 : Plain p1)
    (r0 : SRow w p0 m0 3 (bdC g0)) (r1 : SRow w p1 m1 3 (bdC g1)) :
    Calls Try.prog 34 #[.slice (some ⟨sb, 0, none⟩) 2 2] w fun e w' => ∃ v, e = .returned v ∧ w'.ownsRow w.heap.size 67 3 v (m0 + m1) (flat (m0 + m1) 3 (bdC (catN m0 g0 g1))) ∧ Below w.heap.size w w' := by
  obtain ⟨i0, hi, hz0, hz1, hz2⟩ := info_partsB info_bd
  have R0 := hide r0
  have R1 := hide r1
  have s0 := hS.cell 0 rfl
  have s1 := hS.cell 1 rfl
  have sl := hS.lt
  have KG := fun W => hide (bGrow_nil (m0 + m1) W (by omega))
  have HC : Hid (flat m0 3 (bdC g0) ++ flat m1 3 (bdC g1) = flat (m0 + m1) 3 (bdC (catN m0 g0 g1))) := by
    have := flat_cat m0 3 (bdC g0) (bdC g1) m1
    rw [bd_cat] at this
    exact this
  clear r0 r1
  go_enter Try.func34, Try.ntmps34
  go_wp2
  go_loopg [3, 11] 3 (fun gh sz vk wr => ∃ (i : Nat), vk = .int .i64 (i : Int) ∧ i ≤ 2 ∧ 2 - i < gh ∧ sz = .int .i64 ((sm2 m0 m1 i : Nat) : Int) ∧ wr = w)
  case atStart => exact ⟨0, by go_num, by omega, by omega, rfl, rfl⟩
  case round =>
    obtain ⟨i, rfl, hi', hgh, rfl, hw⟩ := hrel
    obtain ⟨wz, hz⟩ : ∃ wz : World, wz = wr := ⟨_, rfl⟩
    rw [← hz] at hw ⊢
    subst hw
    clear hz
    by_cases h2 : i = 2
    · subst h2
      simp only [sm2]
      go_wp2_with fail
      refine ((KG _).out).mono ?_
      rintro e w1 ⟨v0, rfl, own0, G1⟩
      have HO := hide own0
      have GB := hide G1.1
      have hsz := G1.size
      clear own0 G1 KG
      go_wp2
      go_loopg [6, 27] 3 (fun gh v vk wr => ∃ (i : Nat), vk = .int .i64 (i : Int) ∧ i ≤ 2 ∧ 2 - i < gh ∧ Hid (wr.ownsRow wz.heap.size 67 3 v (sm2 m0 m1 i) (cat2 g0 g1 m0 m1 i)) ∧ Hid (Below wz.heap.size wz wr))
      case atStart => exact ⟨0, by go_num, by omega, by omega, HO, GB⟩
      case round =>
        clear HO GB hsz
        obtain ⟨wo, rfl⟩ : ∃ wo : World, wo = wr := ⟨_, rfl⟩
        obtain ⟨i, rfl, hi', hgh, HO, GB⟩ := hrel
        by_cases h2 : i = 2
        · subst h2
          have own := HO.out
          simp only [sm2, cat2] at own
          rw [HC.out] at own
          have OW := hide own
          have GG := hide GB.out
          clear HO GB R0 R1 HC own
          go_wp2
          go_ret
          exact ⟨_, rfl, OW.out, GG.out⟩
        · have y0 := (GB.out.cell (p := ⟨sb, 0, none⟩) sl).trans s0
          have y1 := (GB.out.cell (p := ⟨sb, 1, none⟩) sl).trans s1
          have RR0 := R0.out.below GB.out
          have RR1 := R1.out.below GB.out
          have hsz := GB.out.size
          have own := HO.out
          by_cases h0' : i = 0
          · subst h0'
            clear HO y1 RR1
            go_wp2_with (at_builtin; refine wpList_append_srow _ rfl _ _ 62 rfl wz.heap.size 67 i0 _ 3 24 Try.underlying62 hi hz0 hz1 hz2 rfl (by decide) _ _ _ rfl own p0 m0 c0 (bdC g0) rfl RR0 q0 (bd_one g0) (by simp only [sm2]; unfold maxLen; omega) (by simp only [sm2]; omega) hsz ?_; intro v' w7 hown' hgrow)
            have ZB := hide (Below.by GB.out own hgrow (Nat.le_refl _) (Nat.le_refl _))
            have HO2 : Hid (w7.ownsRow wz.heap.size 67 3 v' (sm2 m0 m1 1) (cat2 g0 g1 m0 m1 1)) := by
              refine hide ?_
              simpa [sm2, cat2] using hown'
            clear hown' hgrow own GB RR0 y0
            go_wp2
            go_roundg 2
            case measure => omega
            case rel => exact ⟨1, by go_num, by omega, by omega, HO2, ZB⟩
          · obtain rfl : i = 1 := by omega
            clear HO y0 RR0
            go_wp2_with (at_builtin; refine wpList_append_srow _ rfl _ _ 62 rfl wz.heap.size 67 i0 _ 3 24 Try.underlying62 hi hz0 hz1 hz2 rfl (by decide) _ _ _ rfl own p1 m1 c1 (bdC g1) rfl RR1 q1 (bd_one g1) (by simp only [sm2]; unfold maxLen; omega) (by simp only [sm2]; omega) hsz ?_; intro v' w7 hown' hgrow)
            have ZB := hide (Below.by GB.out own hgrow (Nat.le_refl _) (Nat.le_refl _))
            have HO2 : Hid (w7.ownsRow wz.heap.size 67 3 v' (sm2 m0 m1 2) (cat2 g0 g1 m0 m1 2)) := by
              refine hide ?_
              simpa [sm2, cat2] using hown'
            clear hown' hgrow own GB RR1 y1
            go_wp2
            go_roundg 1
            case measure => omega
            case rel => exact ⟨2, by go_num, by omega, by omega, HO2, ZB⟩
    · by_cases h0' : i = 0
      · subst h0'
        simp only [sm2]
        go_wp2
        go_roundg 2
        case measure => omega
        case rel => exact ⟨1, by go_num, by omega, by omega, by simp [sm2], rfl⟩
      · obtain rfl : i = 1 := by omega
        simp only [sm2]
        go_wp2
        go_roundg 1
        case measure => omega
        case rel => exact ⟨2, by go_num, by omega, by omega, by simp [sm2], rfl⟩
end Go.Proofs.Ytdoncogkepopiaa
