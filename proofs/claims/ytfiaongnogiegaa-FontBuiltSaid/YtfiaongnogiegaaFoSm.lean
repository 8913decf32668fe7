/- The law's comparison of the program with its references returns true, for every font whose ligatures are of runes. -/
import Derived.Test.YtfiaongnogiegaaFoRA
import Derived.Test.YtfiaongnogiegaaFoRL
namespace Go.Proofs.Ytfiaongnogiegaa
open Go.RowKit Go.Sort
set_option linter.unusedVariables false
set_option linter.unusedSimpArgs false

set_option maxRecDepth 100000 in
set_option maxHeartbeats 16000000 in
theorem same_any (F : Fn) (s : Sl) (size a1 b1 : Int) (w : World) (H : FAt w F s) (hL : LR F) (ha : -2147483648 ≤ a1 ∧ a1 ≤ 2147483647) :
    Calls Try.prog 6 #[F.v s, .int .i64 size, .int .i32 a1, .int .i32 b1] w fun e w' => e = .returned (.bool true) ∧ Grew w w' := by
  have K0 : ∀ W, Grew w W → Hid (Calls Try.prog 18 #[F.v s, .int .i32 a1, .int .i32 b1] W fun e w' => e = .returned (lgT (ligF F a1 b1)) ∧ Grew W w') := fun W gw => Ligature_any F s a1 b1 W (H.grew gw) 
  have K1 : ∀ W, Grew w W → Hid (Calls Try.prog 19 #[F.v s, .int .i32 a1, .int .i32 b1] W fun e w' => e = .returned (lgT (ligF F a1 b1)) ∧ Grew W w') := fun W gw => rLigature_any F s a1 b1 W (H.grew gw) hL
  have K2 : ∀ W, Grew w W → Hid (Calls Try.prog 10 #[F.v s] W fun e w' => e = .returned (.int .i64 (vldF F)) ∧ Grew W w') := fun W gw => Validate_any F s  W (H.grew gw) 
  have K3 : ∀ W, Grew w W → Hid (Calls Try.prog 20 #[F.v s] W fun e w' => e = .returned (.int .i64 (vldF F)) ∧ Grew W w') := fun W gw => rValidate_any F s  W (H.grew gw) hL
  have K4 : ∀ W, Grew w W → Hid (Calls Try.prog 14 #[F.v s, .int .i64 size, .int .i32 a1] W fun e w' => e = .returned (.int .i64 (advF F size a1)) ∧ Grew W w') := fun W gw => Advance_any F s size a1 W (H.grew gw) ha
  have K5 : ∀ W, Grew w W → Hid (Calls Try.prog 21 #[F.v s, .int .i64 size, .int .i32 a1] W fun e w' => e = .returned (.int .i64 (advF F size a1)) ∧ Grew W w') := fun W gw => rAdvance_any F s size a1 W (H.grew gw) hL ha
  have K6 : ∀ W, Grew w W → Hid (Calls Try.prog 22 #[F.v s, .int .i64 size, .int .i32 a1, .int .i32 b1] W fun e w' => e = .returned (.int .i64 (krF F size a1 b1)) ∧ Grew W w') := fun W gw => Kern_any F s size a1 b1 W (H.grew gw) 
  have K7 : ∀ W, Grew w W → Hid (Calls Try.prog 23 #[F.v s, .int .i64 size, .int .i32 a1, .int .i32 b1] W fun e w' => e = .returned (.int .i64 (krF F size a1 b1)) ∧ Grew W w') := fun W gw => rKern_any F s size a1 b1 W (H.grew gw) hL
  have K8 : ∀ W, Grew w W → Hid (Calls Try.prog 15 #[F.v s, .int .i64 size] W fun e w' => e = .returned (.int .i64 (acF F size)) ∧ Grew W w') := fun W gw => Ascent_any F s size W (H.grew gw) 
  have K9 : ∀ W, Grew w W → Hid (Calls Try.prog 24 #[F.v s, .int .i64 size] W fun e w' => e = .returned (.int .i64 (acF F size)) ∧ Grew W w') := fun W gw => rAscent_any F s size W (H.grew gw) hL
  have K10 : ∀ W, Grew w W → Hid (Calls Try.prog 16 #[F.v s, .int .i64 size] W fun e w' => e = .returned (.int .i64 (dcF F size)) ∧ Grew W w') := fun W gw => Descent_any F s size W (H.grew gw) 
  have K11 : ∀ W, Grew w W → Hid (Calls Try.prog 25 #[F.v s, .int .i64 size] W fun e w' => e = .returned (.int .i64 (dcF F size)) ∧ Grew W w') := fun W gw => rDescent_any F s size W (H.grew gw) hL
  have K12 : ∀ W, Grew w W → Hid (Calls Try.prog 17 #[F.v s, .int .i64 size] W fun e w' => e = .returned (.int .i64 (htF F size)) ∧ Grew W w') := fun W gw => Height_any F s size W (H.grew gw) 
  have K13 : ∀ W, Grew w W → Hid (Calls Try.prog 26 #[F.v s, .int .i64 size] W fun e w' => e = .returned (.int .i64 (htF F size)) ∧ Grew W w') := fun W gw => rHeight_any F s size W (H.grew gw) hL
  generalize ligF F a1 b1 = L at *
  generalize vldF F = y1 at *
  generalize advF F size a1 = y2 at *
  generalize krF F size a1 b1 = y3 at *
  generalize acF F size = y4 at *
  generalize dcF F size = y5 at *
  generalize htF F size = y6 at *
  clear H hL ha
  obtain ⟨u, a, d, g, df, na, av, nk, kv, nl, lv⟩ := F
  obtain ⟨pa, ca, pk, ck, pl, cl⟩ := s
  dsimp only [Fn.v] at *
  obtain ⟨b0, hb0⟩ : ∃ b0, b0 = w.heap.size := ⟨_, rfl⟩
  have G0 : Hid (∀ o, Grew w (w.alloc o)) := fun o => (Grew.refl w).alloc o
  rcases L with _ | ⟨l0, l1, l2, l3⟩
  · have K0 : ∀ W, Grew w W → Hid (Calls Try.prog 18 #[.agg #[.int .i64 u, .int .i64 a, .int .i64 d, .int .i64 g, .int .i64 df, .slice pa na ca, .slice pk nk ck, .slice pl nl cl], .int .i32 a1, .int .i32 b1] W fun e w' => e = .returned (.tuple #[lgV 0 0 0 0, .bool false]) ∧ Grew W w') := K0
    have K1 : ∀ W, Grew w W → Hid (Calls Try.prog 19 #[.agg #[.int .i64 u, .int .i64 a, .int .i64 d, .int .i64 g, .int .i64 df, .slice pa na ca, .slice pk nk ck, .slice pl nl cl], .int .i32 a1, .int .i32 b1] W fun e w' => e = .returned (.tuple #[lgV 0 0 0 0, .bool false]) ∧ Grew W w') := K1
    go_enter Try.func6, Try.ntmps6
    go_wp2_with fail
    have B0 : Hid (Blk (w.alloc (.cells [.int .i64 u, .int .i64 a, .int .i64 d, .int .i64 g, .int .i64 df, .slice pa na ca, .slice pk nk ck, .slice pl nl cl].toArray 26)) b0 26 [.int .i64 u, .int .i64 a, .int .i64 d, .int .i64 g, .int .i64 df, .slice pa na ca, .slice pk nk ck, .slice pl nl cl]) := Blk.new hb0
    rw [← hb0]
    have G1 := hide (G0.out (.cells [.int .i64 u, .int .i64 a, .int .i64 d, .int .i64 g, .int .i64 df, .slice pa na ca, .slice pk nk ck, .slice pl nl cl].toArray 26))
    have hw : Hid (w.heap.size ≤ b0) := Nat.le_of_eq hb0.symm
    clear G0 hb0
    generalize (w.alloc (.cells [.int .i64 u, .int .i64 a, .int .i64 d, .int .i64 g, .int .i64 df, .slice pa na ca, .slice pk nk ck, .slice pl nl cl].toArray 26)) = w1 at *
    have GT0 := G1
    have F0 := B0
    clear G1 B0
    refine (K0 _ GT0.out).out.mono ?_
    rintro e v1 ⟨rfl, q⟩
    have GT1 := hide (GT0.out.trans q)
    have F1 := hide (F0.out.grew q)
    clear q K0 GT0 F0
    have c0 := (F1.out).cell 0 rfl
    have c1 := (F1.out).cell 1 rfl
    have c2 := (F1.out).cell 2 rfl
    have c3 := (F1.out).cell 3 rfl
    have c4 := (F1.out).cell 4 rfl
    have c5 := (F1.out).cell 5 rfl
    have c6 := (F1.out).cell 6 rfl
    have c7 := (F1.out).cell 7 rfl
    have hbl := F1.out.lt
    obtain ⟨xb, hxb⟩ : ∃ xb, xb = v1.heap.size := ⟨_, rfl⟩
    have X : Hid (Blk (v1.alloc (.cells [.int .i32 0, .int .i32 0, .int .i64 0, .int .i64 0].toArray 39)) xb 39 [.int .i32 0, .int .i32 0, .int .i64 0, .int .i64 0]) := Blk.new hxb
    have GA := hide (GT1.out.alloc (.cells [.int .i32 0, .int .i32 0, .int .i64 0, .int .i64 0].toArray 39))
    have FA := hide (F1.out.alloc (.cells [.int .i32 0, .int .i32 0, .int .i64 0, .int .i64 0].toArray 39))
    go_wp2_with fail
    rw [← hxb]
    clear hbl hxb c0 c1 c2 c3 c4 c5 c6 c7 GT1 F1
    generalize (v1.alloc (.cells [.int .i32 0, .int .i32 0, .int .i64 0, .int .i64 0].toArray 39)) = u1 at *
    have GT1 := GA
    have F1 := FA
    clear GA FA
    refine (K1 _ GT1.out).out.mono ?_
    rintro e v2 ⟨rfl, q⟩
    have GT2 := hide (GT1.out.trans q)
    have F2 := hide (F1.out.grew q)
    have X := hide (X.out.grew q)
    clear q K1 GT1 F1
    have c0 := (F2.out).cell 0 rfl
    have c1 := (F2.out).cell 1 rfl
    have c2 := (F2.out).cell 2 rfl
    have c3 := (F2.out).cell 3 rfl
    have c4 := (F2.out).cell 4 rfl
    have c5 := (F2.out).cell 5 rfl
    have c6 := (F2.out).cell 6 rfl
    have c7 := (F2.out).cell 7 rfl
    have hbl := F2.out.lt
    obtain ⟨yb, hyb⟩ : ∃ yb, yb = v2.heap.size := ⟨_, rfl⟩
    have Y : Hid (Blk (v2.alloc (.cells [.int .i32 0, .int .i32 0, .int .i64 0, .int .i64 0].toArray 39)) yb 39 [.int .i32 0, .int .i32 0, .int .i64 0, .int .i64 0]) := Blk.new hyb
    have GA := hide (GT2.out.alloc (.cells [.int .i32 0, .int .i32 0, .int .i64 0, .int .i64 0].toArray 39))
    have FA := hide (F2.out.alloc (.cells [.int .i32 0, .int .i32 0, .int .i64 0, .int .i64 0].toArray 39))
    have X := hide (X.out.alloc (.cells [.int .i32 0, .int .i32 0, .int .i64 0, .int .i64 0].toArray 39))
    go_wp2
    rw [← hyb]
    clear hbl hyb c0 c1 c2 c3 c4 c5 c6 c7 GT2 F2
    generalize (v2.alloc (.cells [.int .i32 0, .int .i32 0, .int .i64 0, .int .i64 0].toArray 39)) = u2 at *
    have GT2 := GA
    have F2 := FA
    clear GA FA
    have GR : Hid (∀ q os, Grew u2 (grow (u2.drewN q) os)) := fun q os => ((Grew.refl u2).drewN q).grow os
    have K2' := fun q os => K2 _ (GT2.out.trans (GR.out q os))
    have K3' := fun q os => K3 _ (GT2.out.trans (GR.out q os))
    have K4' := fun q os => K4 _ (GT2.out.trans (GR.out q os))
    have K5' := fun q os => K5 _ (GT2.out.trans (GR.out q os))
    have K6' := fun q os => K6 _ (GT2.out.trans (GR.out q os))
    have K7' := fun q os => K7 _ (GT2.out.trans (GR.out q os))
    have K8' := fun q os => K8 _ (GT2.out.trans (GR.out q os))
    have K9' := fun q os => K9 _ (GT2.out.trans (GR.out q os))
    have K10' := fun q os => K10 _ (GT2.out.trans (GR.out q os))
    have K11' := fun q os => K11 _ (GT2.out.trans (GR.out q os))
    have K12' := fun q os => K12 _ (GT2.out.trans (GR.out q os))
    have K13' := fun q os => K13 _ (GT2.out.trans (GR.out q os))
    have g0 := fun q os => (Blk.grow F2.out q os).cell 0 rfl
    have g1 := fun q os => (Blk.grow F2.out q os).cell 1 rfl
    have g2 := fun q os => (Blk.grow F2.out q os).cell 2 rfl
    have g3 := fun q os => (Blk.grow F2.out q os).cell 3 rfl
    have g4 := fun q os => (Blk.grow F2.out q os).cell 4 rfl
    have g5 := fun q os => (Blk.grow F2.out q os).cell 5 rfl
    have g6 := fun q os => (Blk.grow F2.out q os).cell 6 rfl
    have g7 := fun q os => (Blk.grow F2.out q os).cell 7 rfl
    have x0 := fun q os => (Blk.grow X.out q os).cell 0 rfl
    have y_0 := fun q os => (Blk.grow Y.out q os).cell 0 rfl
    have x1 := fun q os => (Blk.grow X.out q os).cell 1 rfl
    have y_1 := fun q os => (Blk.grow Y.out q os).cell 1 rfl
    have x2 := fun q os => (Blk.grow X.out q os).cell 2 rfl
    have y_2 := fun q os => (Blk.grow Y.out q os).cell 2 rfl
    have x3 := fun q os => (Blk.grow X.out q os).cell 3 rfl
    have y_3 := fun q os => (Blk.grow Y.out q os).cell 3 rfl
    clear K2 K3 K4 K5 K6 K7 K8 K9 K10 K11 K12 K13 F2 X Y GR
    refine wp_region_calm (by kernel_rfl) (by kernel_rfl) ?_
    repeat (first | (refine lex_skip rfl (by rfl) ?_) | (refine lex_calm rfl (by rfl) (fun K hK => ?_); go_simp; first | (refine hK _ ?_; clear hK K) | (apply Exists.intro; refine ⟨fun _ _ => ?_, hK _ ?_⟩; (first | (with_reducible exact (K2' _ _).out) | (with_reducible exact (K3' _ _).out) | (with_reducible exact (K4' _ _).out) | (with_reducible exact (K5' _ _).out) | (with_reducible exact (K6' _ _).out) | (with_reducible exact (K7' _ _).out) | (with_reducible exact (K8' _ _).out) | (with_reducible exact (K9' _ _).out) | (with_reducible exact (K10' _ _).out) | (with_reducible exact (K11' _ _).out) | (with_reducible exact (K12' _ _).out) | (with_reducible exact (K13' _ _).out)); clear hK K)))
    refine lex_nil ?_
    intro w9 G9
    have GF := hide (GT2.out.trans G9)
    clear G9 K2' K3' K4' K5' K6' K7' K8' K9' K10' K11' K12' K13' g0 g1 g2 g3 g4 g5 g6 g7 x0 x1 x2 x3 y_0 y_1 y_2 y_3
    go_wp2
    go_ret
    exact ⟨rfl, GF.out⟩
  · have K0 : ∀ W, Grew w W → Hid (Calls Try.prog 18 #[.agg #[.int .i64 u, .int .i64 a, .int .i64 d, .int .i64 g, .int .i64 df, .slice pa na ca, .slice pk nk ck, .slice pl nl cl], .int .i32 a1, .int .i32 b1] W fun e w' => e = .returned (.tuple #[lgV l0 l1 l2 l3, .bool true]) ∧ Grew W w') := K0
    have K1 : ∀ W, Grew w W → Hid (Calls Try.prog 19 #[.agg #[.int .i64 u, .int .i64 a, .int .i64 d, .int .i64 g, .int .i64 df, .slice pa na ca, .slice pk nk ck, .slice pl nl cl], .int .i32 a1, .int .i32 b1] W fun e w' => e = .returned (.tuple #[lgV l0 l1 l2 l3, .bool true]) ∧ Grew W w') := K1
    go_enter Try.func6, Try.ntmps6
    go_wp2_with fail
    have B0 : Hid (Blk (w.alloc (.cells [.int .i64 u, .int .i64 a, .int .i64 d, .int .i64 g, .int .i64 df, .slice pa na ca, .slice pk nk ck, .slice pl nl cl].toArray 26)) b0 26 [.int .i64 u, .int .i64 a, .int .i64 d, .int .i64 g, .int .i64 df, .slice pa na ca, .slice pk nk ck, .slice pl nl cl]) := Blk.new hb0
    rw [← hb0]
    have G1 := hide (G0.out (.cells [.int .i64 u, .int .i64 a, .int .i64 d, .int .i64 g, .int .i64 df, .slice pa na ca, .slice pk nk ck, .slice pl nl cl].toArray 26))
    have hw : Hid (w.heap.size ≤ b0) := Nat.le_of_eq hb0.symm
    clear G0 hb0
    generalize (w.alloc (.cells [.int .i64 u, .int .i64 a, .int .i64 d, .int .i64 g, .int .i64 df, .slice pa na ca, .slice pk nk ck, .slice pl nl cl].toArray 26)) = w1 at *
    have GT0 := G1
    have F0 := B0
    clear G1 B0
    refine (K0 _ GT0.out).out.mono ?_
    rintro e v1 ⟨rfl, q⟩
    have GT1 := hide (GT0.out.trans q)
    have F1 := hide (F0.out.grew q)
    clear q K0 GT0 F0
    have c0 := (F1.out).cell 0 rfl
    have c1 := (F1.out).cell 1 rfl
    have c2 := (F1.out).cell 2 rfl
    have c3 := (F1.out).cell 3 rfl
    have c4 := (F1.out).cell 4 rfl
    have c5 := (F1.out).cell 5 rfl
    have c6 := (F1.out).cell 6 rfl
    have c7 := (F1.out).cell 7 rfl
    have hbl := F1.out.lt
    obtain ⟨xb, hxb⟩ : ∃ xb, xb = v1.heap.size := ⟨_, rfl⟩
    have X : Hid (Blk (v1.alloc (.cells [.int .i32 l0, .int .i32 l1, .int .i64 l2, .int .i64 l3].toArray 39)) xb 39 [.int .i32 l0, .int .i32 l1, .int .i64 l2, .int .i64 l3]) := Blk.new hxb
    have GA := hide (GT1.out.alloc (.cells [.int .i32 l0, .int .i32 l1, .int .i64 l2, .int .i64 l3].toArray 39))
    have FA := hide (F1.out.alloc (.cells [.int .i32 l0, .int .i32 l1, .int .i64 l2, .int .i64 l3].toArray 39))
    go_wp2_with fail
    rw [← hxb]
    clear hbl hxb c0 c1 c2 c3 c4 c5 c6 c7 GT1 F1
    generalize (v1.alloc (.cells [.int .i32 l0, .int .i32 l1, .int .i64 l2, .int .i64 l3].toArray 39)) = u1 at *
    have GT1 := GA
    have F1 := FA
    clear GA FA
    refine (K1 _ GT1.out).out.mono ?_
    rintro e v2 ⟨rfl, q⟩
    have GT2 := hide (GT1.out.trans q)
    have F2 := hide (F1.out.grew q)
    have X := hide (X.out.grew q)
    clear q K1 GT1 F1
    have c0 := (F2.out).cell 0 rfl
    have c1 := (F2.out).cell 1 rfl
    have c2 := (F2.out).cell 2 rfl
    have c3 := (F2.out).cell 3 rfl
    have c4 := (F2.out).cell 4 rfl
    have c5 := (F2.out).cell 5 rfl
    have c6 := (F2.out).cell 6 rfl
    have c7 := (F2.out).cell 7 rfl
    have hbl := F2.out.lt
    obtain ⟨yb, hyb⟩ : ∃ yb, yb = v2.heap.size := ⟨_, rfl⟩
    have Y : Hid (Blk (v2.alloc (.cells [.int .i32 l0, .int .i32 l1, .int .i64 l2, .int .i64 l3].toArray 39)) yb 39 [.int .i32 l0, .int .i32 l1, .int .i64 l2, .int .i64 l3]) := Blk.new hyb
    have GA := hide (GT2.out.alloc (.cells [.int .i32 l0, .int .i32 l1, .int .i64 l2, .int .i64 l3].toArray 39))
    have FA := hide (F2.out.alloc (.cells [.int .i32 l0, .int .i32 l1, .int .i64 l2, .int .i64 l3].toArray 39))
    have X := hide (X.out.alloc (.cells [.int .i32 l0, .int .i32 l1, .int .i64 l2, .int .i64 l3].toArray 39))
    go_wp2
    rw [← hyb]
    clear hbl hyb c0 c1 c2 c3 c4 c5 c6 c7 GT2 F2
    generalize (v2.alloc (.cells [.int .i32 l0, .int .i32 l1, .int .i64 l2, .int .i64 l3].toArray 39)) = u2 at *
    have GT2 := GA
    have F2 := FA
    clear GA FA
    have GR : Hid (∀ q os, Grew u2 (grow (u2.drewN q) os)) := fun q os => ((Grew.refl u2).drewN q).grow os
    have K2' := fun q os => K2 _ (GT2.out.trans (GR.out q os))
    have K3' := fun q os => K3 _ (GT2.out.trans (GR.out q os))
    have K4' := fun q os => K4 _ (GT2.out.trans (GR.out q os))
    have K5' := fun q os => K5 _ (GT2.out.trans (GR.out q os))
    have K6' := fun q os => K6 _ (GT2.out.trans (GR.out q os))
    have K7' := fun q os => K7 _ (GT2.out.trans (GR.out q os))
    have K8' := fun q os => K8 _ (GT2.out.trans (GR.out q os))
    have K9' := fun q os => K9 _ (GT2.out.trans (GR.out q os))
    have K10' := fun q os => K10 _ (GT2.out.trans (GR.out q os))
    have K11' := fun q os => K11 _ (GT2.out.trans (GR.out q os))
    have K12' := fun q os => K12 _ (GT2.out.trans (GR.out q os))
    have K13' := fun q os => K13 _ (GT2.out.trans (GR.out q os))
    have g0 := fun q os => (Blk.grow F2.out q os).cell 0 rfl
    have g1 := fun q os => (Blk.grow F2.out q os).cell 1 rfl
    have g2 := fun q os => (Blk.grow F2.out q os).cell 2 rfl
    have g3 := fun q os => (Blk.grow F2.out q os).cell 3 rfl
    have g4 := fun q os => (Blk.grow F2.out q os).cell 4 rfl
    have g5 := fun q os => (Blk.grow F2.out q os).cell 5 rfl
    have g6 := fun q os => (Blk.grow F2.out q os).cell 6 rfl
    have g7 := fun q os => (Blk.grow F2.out q os).cell 7 rfl
    have x0 := fun q os => (Blk.grow X.out q os).cell 0 rfl
    have y_0 := fun q os => (Blk.grow Y.out q os).cell 0 rfl
    have x1 := fun q os => (Blk.grow X.out q os).cell 1 rfl
    have y_1 := fun q os => (Blk.grow Y.out q os).cell 1 rfl
    have x2 := fun q os => (Blk.grow X.out q os).cell 2 rfl
    have y_2 := fun q os => (Blk.grow Y.out q os).cell 2 rfl
    have x3 := fun q os => (Blk.grow X.out q os).cell 3 rfl
    have y_3 := fun q os => (Blk.grow Y.out q os).cell 3 rfl
    clear K2 K3 K4 K5 K6 K7 K8 K9 K10 K11 K12 K13 F2 X Y GR
    refine wp_region_calm (by kernel_rfl) (by kernel_rfl) ?_
    repeat (first | (refine lex_skip rfl (by rfl) ?_) | (refine lex_calm rfl (by rfl) (fun K hK => ?_); go_simp; first | (refine hK _ ?_; clear hK K) | (apply Exists.intro; refine ⟨fun _ _ => ?_, hK _ ?_⟩; (first | (with_reducible exact (K2' _ _).out) | (with_reducible exact (K3' _ _).out) | (with_reducible exact (K4' _ _).out) | (with_reducible exact (K5' _ _).out) | (with_reducible exact (K6' _ _).out) | (with_reducible exact (K7' _ _).out) | (with_reducible exact (K8' _ _).out) | (with_reducible exact (K9' _ _).out) | (with_reducible exact (K10' _ _).out) | (with_reducible exact (K11' _ _).out) | (with_reducible exact (K12' _ _).out) | (with_reducible exact (K13' _ _).out)); clear hK K)))
    refine lex_nil ?_
    intro w9 G9
    have GF := hide (GT2.out.trans G9)
    clear G9 K2' K3' K4' K5' K6' K7' K8' K9' K10' K11' K12' K13' g0 g1 g2 g3 g4 g5 g6 g7 x0 x1 x2 x3 y_0 y_1 y_2 y_3
    go_wp2
    go_ret
    exact ⟨rfl, GF.out⟩
end Go.Proofs.Ytfiaongnogiegaa
