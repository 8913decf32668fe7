/- The law FontBuilt returns true for every slice of integers; no condition. -/
import Derived.Test.YtfiaongnogiegaaFoSm
import Derived.Test.YtfiaongnogiegaaFoY
import Derived.Test.YtfiaongnogiegaaFoBs
import Derived.Deep.CutBlock
import Derived.Deep.CutRange
namespace Go.Proofs.Ytfiaongnogiegaa
open Go.RowKit Go.Sort
set_option linter.unusedVariables false
set_option linter.unusedSimpArgs false

/-- What the loops of the law keep: the reader, the font's box, its rows, the sizes. -/
structure Bu (w0 : World) (sb fb zb B : Nat) (p : Option Addr) (m c : Nat) (f : Nat → Int) (F : Fn) (s : Sl) (zs : List Value) (W : World) : Prop where
  sr : SR w0 W sb p m c f
  blk : Blk W fb 26 [.int .i64 F.u, .int .i64 F.a, .int .i64 F.d, .int .i64 F.g, .int .i64 F.df, .slice s.pa F.na s.ca, .slice s.pk F.nk s.ck, .slice s.pl F.nl s.cl]
  own : Own3 B F s W
  siz : Blk W zb 3 zs
  n1 : fb ≠ sb
  n2 : zb ≠ sb
  n3 : sb < B
  n4 : w0.heap.size ≤ B
  n5 : w0.heap.size ≤ fb
  n6 : B ≤ W.heap.size
theorem Bu.but {w0 W W' : World} {sb fb zb B m c : Nat} {p : Option Addr} {f : Nat → Int} {F : Fn} {s : Sl} {zs : List Value} (h : Bu w0 sb fb zb B p m c f F s zs W) (b : But sb W W') (k : SR w0 W' sb p m c f) : Bu w0 sb fb zb B p m c f F s zs W' :=
  ⟨k, b.blk h.blk h.n1, h.own.but b h.n3, b.blk h.siz h.n2, h.n1, h.n2, h.n3, h.n4, h.n5, Nat.le_trans h.n6 b.size⟩
theorem Bu.grew {w0 W W' : World} {sb fb zb B m c : Nat} {p : Option Addr} {f : Nat → Int} {F : Fn} {s : Sl} {zs : List Value} (h : Bu w0 sb fb zb B p m c f F s zs W) (g : Grew W W') : Bu w0 sb fb zb B p m c f F s zs W' :=
  h.but (But.of_grew g) (h.sr.grew g)
theorem Bu.fb {w0 W : World} {sb fb zb B m c : Nat} {p : Option Addr} {f : Nat → Int} {F : Fn} {s : Sl} {zs : List Value} (h : Bu w0 sb fb zb B p m c f F s zs W) (l : LR F) : Fb w0 fb B F s W := ⟨h.sr.g, h.n4, h.n5, h.blk, h.own, l⟩
theorem lr_good {F : Fn} (h : Good F) : LR F := by
  obtain ⟨x, y, hl⟩ := h.lv
  intro i hi
  have := hl.ok i hi
  simp only [runeB, decide_eq_true_eq]
  exact ⟨this.1, this.2.1⟩
/-- Two runes, the comparison, its negation. -/
def StSame (P : World → Prop) : List Value → World → Prop
  | [], w => P w
  | [a], w => (∃ x, (-2147483648 ≤ x ∧ x ≤ 2147483647) ∧ a = .int .i32 x) ∧ P w
  | [a, b], w => (∃ x, (-2147483648 ≤ x ∧ x ≤ 2147483647) ∧ a = .int .i32 x) ∧ (∃ y, b = .int .i32 y) ∧ P w
  | [_, _, v], w => v = .bool true ∧ P w
  | [_, _, _, v], w => v = .bool false ∧ P w
  | _, _ => False
theorem StSame.p {P : World → Prop} : ∀ {vals : List Value} {w : World}, StSame P vals w → P w
  | [], _, h => h
  | [_], _, h => h.2
  | [_, _], _, h => h.2.2
  | [_, _, _], _, h => h.2
  | [_, _, _, _], _, h => h.2
  | _ :: _ :: _ :: _ :: _ :: _, _, h => h.elim
/-- A number, the sum, the store. -/
def StGl (P T J : World → Prop) : List Value → World → Prop
  | [], w => P w
  | [a], w => (∃ x, (0 ≤ x ∧ x < 2) ∧ a = .int .i64 x) ∧ P w
  | [_, b], w => (∃ x, b = .int .i64 x) ∧ P w
  | [_, _, _], w => T w ∧ J w
  | _, _ => False
theorem StGl.j {P T J : World → Prop} (hj : ∀ w, P w → J w) : ∀ {vals : List Value} {w : World}, StGl P T J vals w → J w
  | [], _, h => hj _ h
  | [_], _, h => hj _ h.2
  | [_, _], _, h => hj _ h.2
  | [_, _, _], _, h => h.2
  | _ :: _ :: _ :: _ :: _, _, h => h.elim
set_option maxRecDepth 100000 in
set_option maxHeartbeats 16000000 in
theorem built_walk (p : Option Addr) (n c : Nat) (f : Nat → Int) (w : World) (hnc : n ≤ c) (hr : Reads w p n f) (hf : ∀ k, -9223372036854775808 ≤ f k ∧ f k ≤ 9223372036854775807) :
    Calls Try.prog 4 #[.slice p n c] w fun e w' => e = .returned (.bool true) ∧ Below w.heap.size w w' := by
  have KN := fun W => hide (New_any p n c W hnc (fun h => by obtain ⟨b, off, e, _⟩ := hr h; exact ⟨_, e⟩))
  have HR := hide hr
  have HF := hide hf
  clear hr hf
  go_enter Try.func4, Try.ntmps4
  go_wp2_with fail
  refine (KN _).out.mono ?_
  rintro e w1 ⟨sb, m, c', rfl, G1, hsb, ⟨hmn, hm4⟩, B1⟩
  have S1 := hide (sr_start G1 hsb hmn hm4 HR.out HF.out B1)
  obtain ⟨B, hBB⟩ : ∃ B, B = w1.heap.size := ⟨_, rfl⟩
  have hs1 : Hid (sb < B) := by rw [hBB]; exact B1.lt
  have hB0 : Hid (w.heap.size ≤ B) := by rw [hBB]; exact G1.size
  have hB1 := hide hBB
  clear G1 hsb B1 KN hBB
  have KF := hide (Font_any w w1 sb m c' p f S1.out)
  go_wp2_with fail
  refine KF.out.mono ?_
  rintro e w2 ⟨F, s, rfl, GF, OF, S2, BF⟩
  rw [← hB1.out] at OF
  have hB2 : Hid (B ≤ w2.heap.size) := by have := BF.size; rw [← hB1.out] at this; exact this
  have FA := hide OF
  have VF := hide GF.valid
  have LF := hide (lr_good GF)
  have GF := hide GF
  have S2 := hide S2
  clear KF S1 OF BF hB1
  obtain ⟨fb, hfb⟩ : ∃ fb, fb = w2.heap.size := ⟨_, rfl⟩
  obtain ⟨u, a, d, g, df, na, av, nk, kv, nl, lv⟩ := F
  obtain ⟨pa, ca, pk, ck, pl, cl⟩ := s
  dsimp only [Fn.v]
  have B0 : Hid (Blk (w2.alloc (.cells [.int .i64 u, .int .i64 a, .int .i64 d, .int .i64 g, .int .i64 df, .slice pa na ca, .slice pk nk ck, .slice pl nl cl].toArray 26)) fb 26 [.int .i64 u, .int .i64 a, .int .i64 d, .int .i64 g, .int .i64 df, .slice pa na ca, .slice pk nk ck, .slice pl nl cl]) := Blk.new hfb
  have G3 : Hid (Grew w2 (w2.alloc (.cells [.int .i64 u, .int .i64 a, .int .i64 d, .int .i64 g, .int .i64 df, .slice pa na ca, .slice pk nk ck, .slice pl nl cl].toArray 26))) := (Grew.refl w2).alloc _
  have KV : ∀ W, Grew (w2.alloc (.cells [.int .i64 u, .int .i64 a, .int .i64 d, .int .i64 g, .int .i64 df, .slice pa na ca, .slice pk nk ck, .slice pl nl cl].toArray 26)) W → Hid (Calls Try.prog 10 #[.agg #[.int .i64 u, .int .i64 a, .int .i64 d, .int .i64 g, .int .i64 df, .slice pa na ca, .slice pk nk ck, .slice pl nl cl]] W fun e w' => e = .returned (.int .i64 0) ∧ Grew W w') := fun W gw => by
    have := Validate_any (Fn.mk u a d g df na av nk kv nl lv) (Sl.mk pa ca pk ck pl cl) W (FA.out.fat.grew (G3.out.trans gw))
    rw [VF.out] at this
    exact hide this
  go_wp2_with fail
  rw [← hfb]
  have hfb' := hide hfb
  clear hfb
  generalize (w2.alloc (.cells [.int .i64 u, .int .i64 a, .int .i64 d, .int .i64 g, .int .i64 df, .slice pa na ca, .slice pk nk ck, .slice pl nl cl].toArray 26)) = w3 at *
  have S3 := hide (S2.out.grew G3.out)
  have FA3 := hide (FA.out.grew G3.out)
  have hfs : Hid (fb ≠ sb) := by
    obtain ⟨t, _, k⟩ := S2.out.src
    have := k.lt
    have := hfb'.out
    show fb ≠ sb
    omega
  have hfw : Hid (w.heap.size ≤ fb) := by
    have := S2.out.g.size
    have := hfb'.out
    show w.heap.size ≤ fb
    omega
  have hB3 : Hid (B ≤ w3.heap.size) := Nat.le_trans hB2.out G3.out.size
  refine (KV _ (Grew.refl _)).out.mono ?_
  rintro e w4 ⟨rfl, q⟩
  have S4 := hide (S3.out.grew q)
  have B4 := hide (B0.out.grew q)
  have FA4 := hide (FA3.out.grew q)
  have hB4 : Hid (B ≤ w4.heap.size) := Nat.le_trans hB3.out q.size
  clear q KV S3 B0 FA3 S2 FA G3 hfb' VF hB2 hB3 HR HF
  obtain ⟨zb, hzb⟩ : ∃ zb, zb = w4.heap.size := ⟨_, rfl⟩
  have Z0 : Hid (Bu w sb fb zb B p m c' f ⟨u, a, d, g, df, na, av, nk, kv, nl, lv⟩ ⟨pa, ca, pk, ck, pl, cl⟩ [.int .i64 0, .int .i64 1, .int .i64 2, .int .i64 16, .int .i64 999, .int .i64 1000, .int .i64 1001] (w4.alloc (.cells [.int .i64 0, .int .i64 1, .int .i64 2, .int .i64 16, .int .i64 999, .int .i64 1000, .int .i64 1001].toArray 3))) := by
    obtain ⟨t, _, k⟩ := S4.out.src
    have h1 := k.lt
    exact ⟨S4.out.grew ((Grew.refl _).alloc _), B4.out.alloc _, FA4.out.grew ((Grew.refl _).alloc _), Blk.new hzb, hfs.out, by omega, hs1.out, hB0.out, hfw.out, Nat.le_trans hB4.out ((Grew.refl _).alloc _).size⟩
  go_wp2
  rw [← hzb]
  clear hzb S4 B4 FA4 hfs hs1 hB4 hB0 hfw
  generalize (w4.alloc (.cells [.int .i64 0, .int .i64 1, .int .i64 2, .int .i64 16, .int .i64 999, .int .i64 1000, .int .i64 1001].toArray 3)) = w5 at *
  have KM : Hid (∀ (size x y : Int) W, -2147483648 ≤ x ∧ x ≤ 2147483647 → Bu w sb fb zb B p m c' f ⟨u, a, d, g, df, na, av, nk, kv, nl, lv⟩ ⟨pa, ca, pk, ck, pl, cl⟩ [.int .i64 0, .int .i64 1, .int .i64 2, .int .i64 16, .int .i64 999, .int .i64 1000, .int .i64 1001] W → Calls Try.prog 6 #[.agg #[.int .i64 u, .int .i64 a, .int .i64 d, .int .i64 g, .int .i64 df, .slice pa na ca, .slice pk nk ck, .slice pl nl cl], .int .i64 size, .int .i32 x, .int .i32 y] W fun e w' => e = .returned (.bool true) ∧ Grew W w') := fun size x y W hx hb => same_any ⟨u, a, d, g, df, na, av, nk, kv, nl, lv⟩ ⟨pa, ca, pk, ck, pl, cl⟩ size x y W hb.own.fat LF.out hx
  go_loopg [6] 8 (fun gh vk wr => ∃ (k : Nat), vk = .int .i64 (k : Int) ∧ k ≤ 7 ∧ 7 - k < gh ∧ Hid (Bu w sb fb zb B p m c' f ⟨u, a, d, g, df, na, av, nk, kv, nl, lv⟩ ⟨pa, ca, pk, ck, pl, cl⟩ [.int .i64 0, .int .i64 1, .int .i64 2, .int .i64 16, .int .i64 999, .int .i64 1000, .int .i64 1001] wr))
  case atStart => exact ⟨0, by go_num, by omega, by omega, Z0⟩
  case round =>
    clear Z0
    obtain ⟨wo, rfl⟩ : ∃ wo : World, wo = wr := ⟨_, rfl⟩
    obtain ⟨k, rfl, hk, hg, P⟩ := hrel
    by_cases hlt : k < 7
    · have hltz : (k : Int) < 7 := by omega
      have hk0 : (0 : Int) ≤ (k : Int) := by omega
      obtain ⟨z, hz⟩ : ∃ z : Int, ([.int .i64 0, .int .i64 1, .int .i64 2, .int .i64 16, .int .i64 999, .int .i64 1000, .int .i64 1001] : List Value)[k]? = some (.int .i64 z) := by
        have h : k = 0 ∨ k = 1 ∨ k = 2 ∨ k = 3 ∨ k = 4 ∨ k = 5 ∨ k = 6 := by omega
        rcases h with rfl | rfl | rfl | rfl | rfl | rfl | rfl <;> exact ⟨_, rfl⟩
      go_wp2
      --MARK1
      refine MJ.wp_region_chain (fun W => (W.cell? ⟨fb, 0, none⟩ = some (.int .i64 u) ∧ W.cell? ⟨fb, 1, none⟩ = some (.int .i64 a) ∧ W.cell? ⟨fb, 2, none⟩ = some (.int .i64 d) ∧ W.cell? ⟨fb, 3, none⟩ = some (.int .i64 g) ∧ W.cell? ⟨fb, 4, none⟩ = some (.int .i64 df) ∧ W.cell? ⟨fb, 5, none⟩ = some (.slice pa na ca) ∧ W.cell? ⟨fb, 6, none⟩ = some (.slice pk nk ck) ∧ W.cell? ⟨fb, 7, none⟩ = some (.slice pl nl cl) ∧ W.cell? ⟨zb, k, none⟩ = some (.int .i64 z))) [6, 8, 9, 10] [(29, 6), (31, 8), (32, 9), (33, 10)] (StSame (fun W => Bu w sb fb zb B p m c' f ⟨u, a, d, g, df, na, av, nk, kv, nl, lv⟩ ⟨pa, ca, pk, ck, pl, cl⟩ [.int .i64 0, .int .i64 1, .int .i64 2, .int .i64 16, .int .i64 999, .int .i64 1000, .int .i64 1001] W)) (by kernel_rfl) (by kernel_rfl) (by simp) ?h0 ?hJ ?_
      case h0 => exact P.out.grew ((Grew.refl _).drew)
      case hJ =>
        intro vals W _ hS
        have q := hS.p
        exact ⟨q.blk.cell 0 rfl, q.blk.cell 1 rfl, q.blk.cell 2 rfl, q.blk.cell 3 rfl, q.blk.cell 4 rfl, q.blk.cell 5 rfl, q.blk.cell 6 rfl, q.blk.cell 7 rfl, q.siz.cell k hz⟩
      --MARK2
      repeat (first | (refine MJ.lex_skip rfl (by rfl) ?_) | (refine MJ.lex_calm rfl (by rfl) (fun K hK => ?_); apply Exists.intro; refine ⟨fun W hW => ?_, ?_⟩; (obtain ⟨j0, j1, j2, j3, j4, j5, j6, j7, j8⟩ := hW; go_simp; exact rfl); go_simp; refine hK _ ?_; clear hK K))
      --MARK3
      refine MJ.lex_chain 0 rfl (by kernel_rfl) rfl ?_ ?_
      · rintro vs W hP
        replace hP : Hid (Bu w sb fb zb B p m c' f ⟨u, a, d, g, df, na, av, nk, kv, nl, lv⟩ ⟨pa, ca, pk, ck, pl, cl⟩ [.int .i64 0, .int .i64 1, .int .i64 2, .int .i64 16, .int .i64 999, .int .i64 1000, .int .i64 1001] W) := hP
        have KN := hide (Rune_any w W sb m c' p f hP.out.sr)
        simp [go_sem, evS, List.lookup]
        refine KN.out.mono ?_
        rintro e w' ⟨x, rfl, hx, q, SS⟩
        exact ⟨_, rfl, ⟨x, hx, rfl⟩, hP.out.but q SS⟩
      --MARK4
      repeat (first | (refine MJ.lex_skip rfl (by rfl) ?_) | (refine MJ.lex_calm rfl (by rfl) (fun K hK => ?_); apply Exists.intro; refine ⟨fun W hW => ?_, ?_⟩; (obtain ⟨j0, j1, j2, j3, j4, j5, j6, j7, j8⟩ := hW; go_simp; exact rfl); go_simp; refine hK _ ?_; clear hK K))
      refine MJ.lex_chain 1 rfl (by kernel_rfl) rfl ?_ ?_
      · rintro vs W ⟨hx0, hP⟩
        replace hP : Hid (Bu w sb fb zb B p m c' f ⟨u, a, d, g, df, na, av, nk, kv, nl, lv⟩ ⟨pa, ca, pk, ck, pl, cl⟩ [.int .i64 0, .int .i64 1, .int .i64 2, .int .i64 16, .int .i64 999, .int .i64 1000, .int .i64 1001] W) := hP
        replace hx0 := hide hx0
        have KN := hide (Rune_any w W sb m c' p f hP.out.sr)
        simp [go_sem, evS, List.lookup]
        refine KN.out.mono ?_
        rintro e w' ⟨x, rfl, hx, q, SS⟩
        exact ⟨_, rfl, hx0.out, ⟨x, rfl⟩, hP.out.but q SS⟩
      --MARK5
      refine MJ.lex_chain 2 rfl (by kernel_rfl) rfl ?_ ?_
      · rintro vs W ⟨⟨x, hx, ex⟩, ⟨y, ey⟩, hP⟩
        replace ex : vs 6 = .int .i32 x := ex
        replace ey : vs 8 = .int .i32 y := ey
        replace hP : Hid (Bu w sb fb zb B p m c' f ⟨u, a, d, g, df, na, av, nk, kv, nl, lv⟩ ⟨pa, ca, pk, ck, pl, cl⟩ [.int .i64 0, .int .i64 1, .int .i64 2, .int .i64 16, .int .i64 999, .int .i64 1000, .int .i64 1001] W) := hP
        have KK := hide (KM.out z x y W hx hP.out)
        simp [go_sem, evS, List.lookup, ex, ey]
        refine KK.out.mono ?_
        rintro e w' ⟨rfl, q⟩
        exact ⟨_, rfl, rfl, hP.out.grew q⟩
      --MARK6
      refine MJ.lex_chain 3 rfl (by kernel_rfl) rfl ?_ ?_
      · rintro vs W ⟨ev, hP⟩
        replace ev : vs 9 = .bool true := ev
        have FIN : Hid (StSame (fun W => Bu w sb fb zb B p m c' f ⟨u, a, d, g, df, na, av, nk, kv, nl, lv⟩ ⟨pa, ca, pk, ck, pl, cl⟩ [.int .i64 0, .int .i64 1, .int .i64 2, .int .i64 16, .int .i64 999, .int .i64 1000, .int .i64 1001] W) (MJ.valsOf [6, 8, 9, 10] vs 3 ++ [.bool false]) W) := ⟨rfl, hP⟩
        clear hP
        simp [go_sem, evS, List.lookup, ev]
        exact FIN.out
      --MARKA
      refine MJ.lex_nil ?_
      rintro vs w6 ⟨ev, hP⟩
      replace ev : vs 10 = .bool false := ev
      replace hP : Hid (Bu w sb fb zb B p m c' f ⟨u, a, d, g, df, na, av, nk, kv, nl, lv⟩ ⟨pa, ca, pk, ck, pl, cl⟩ [.int .i64 0, .int .i64 1, .int .i64 2, .int .i64 16, .int .i64 999, .int .i64 1000, .int .i64 1001] w6) := hP
      --MARKB
      simp only [fillS, List.foldl_cons, List.foldl_nil, ev]
      generalize vs 6 = y6
      generalize vs 8 = y8
      generalize vs 9 = y9
      clear P ev hz KM GF LF
      --MARKC
      go_simp
      --MARKD
      go_wp2
      --MARK7
      go_roundg (7 - k)
      case measure => omega
      case rel => exact ⟨k + 1, by go_num, by omega, by omega, hP⟩
    · have hltz : ¬ (k : Int) < 7 := by omega
      obtain ⟨wv, rfl⟩ : ∃ W : World, W = wo := ⟨_, rfl⟩
      have P1 := P
      clear P hlt hg hk
      go_wp2
      clear hltz
      --MARK8
      go_loopg [7] (nk + 1) (fun gh vk wr => ∃ (k : Nat), vk = .int .i64 (k : Int) ∧ k ≤ nk ∧ nk - k < gh ∧ Hid (Bu w sb fb zb B p m c' f ⟨u, a, d, g, df, na, av, nk, kv, nl, lv⟩ ⟨pa, ca, pk, ck, pl, cl⟩ [.int .i64 0, .int .i64 1, .int .i64 2, .int .i64 16, .int .i64 999, .int .i64 1000, .int .i64 1001] wr))
      case atStart => exact ⟨0, by go_num, by omega, by omega, P1⟩
      case round =>
        clear P1
        obtain ⟨wo, rfl⟩ : ∃ wo : World, wo = wr := ⟨_, rfl⟩
        obtain ⟨k, rfl, hk, hg, P⟩ := hrel
        have B7 := fun q os => ((Blk.grow P.out.blk q os).cell 6 rfl)
        have b7 := P.out.blk.cell 6 rfl
        by_cases hlt : k < nk
        · have hltz : (k : Int) < (nk : Int) := by omega
          have hk0 : (0 : Int) ≤ (k : Int) := by omega
          have hn5 : nk ≤ 5 := by
            have := GF.out.nk
            dsimp only at this
            omega
          have hk5 : (k : Int) ≤ 5 := by omega
          have SRW := P.out.own.fat.kv (by
            show 0 < nk
            omega)
          obtain ⟨b, off, ep, hb, hc⟩ := SRW
          replace ep : pk = some ⟨b, off, none⟩ := ep
          subst ep
          replace hc : ∀ i, i < nk → ∀ j, j < 3 → wo.cell? ⟨b, off + i * 3 + j, none⟩ = some (knC kv i j) := hc
          have hgr : Hid (∀ q os, Grew wo (grow (wo.drewN q) os)) := fun q os => ((Grew.refl wo).drewN q).grow os
          have d0 : ∀ q os, (grow (wo.drewN q) os).cell? ⟨b, off + k * 3, none⟩ = some (.int .i32 (kv k).a) := fun q os => ((hgr.out q os).1.cell (p := ⟨b, off + k * 3 + 0, none⟩) hb).trans (hc k hlt 0 (by decide))
          have d1 : ∀ q os, (grow (wo.drewN q) os).cell? ⟨b, off + k * 3 + 1, none⟩ = some (.int .i32 (kv k).b) := fun q os => ((hgr.out q os).1.cell (p := ⟨b, off + k * 3 + 1, none⟩) hb).trans (hc k hlt 1 (by decide))
          have hx : -2147483648 ≤ (kv k).a ∧ (kv k).a ≤ 2147483647 := by
            obtain ⟨x, y, hl⟩ := GF.out.kv
            have := (hl.ok k hlt).1
            dsimp only at this
            omega
          have KC := fun q os => hide (KM.out 20 (kv k).a (kv k).b _ hx (P.out.grew (hgr.out q os)))
          clear hc hb hx
          generalize (kv k).a = x at *
          generalize (kv k).b = y at *
          have g0 := fun q os => (Blk.grow P.out.blk q os).cell 0 rfl
          have g1 := fun q os => (Blk.grow P.out.blk q os).cell 1 rfl
          have g2 := fun q os => (Blk.grow P.out.blk q os).cell 2 rfl
          have g3 := fun q os => (Blk.grow P.out.blk q os).cell 3 rfl
          have g4 := fun q os => (Blk.grow P.out.blk q os).cell 4 rfl
          have g5 := fun q os => (Blk.grow P.out.blk q os).cell 5 rfl
          have g6 := fun q os => (Blk.grow P.out.blk q os).cell 6 rfl
          have g7 := fun q os => (Blk.grow P.out.blk q os).cell 7 rfl
          go_wp2
          --MARKL7
          refine wp_region_calm (by kernel_rfl) (by kernel_rfl) ?_
          repeat (first | (refine lex_skip rfl (by rfl) ?_; go_simp) | (refine lex_calm rfl (by rfl) (fun K hK => ?_); go_simp; first | (refine hK _ ?_; clear hK K) | (apply Exists.intro; refine ⟨fun _ _ => ?_, hK _ ?_⟩; (with_reducible exact (KC _ _).out); clear hK K)))
          refine lex_nil ?_
          intro w6 G6
          have NX := hide (P.out.grew G6)
          clear G6 g0 g1 g2 g3 g4 g5 g6 g7 KC d0 d1 P B7 b7
          go_wp2
          go_roundg (nk - k)
          case measure => omega
          case rel => exact ⟨k + 1, by go_num, by omega, by omega, NX⟩
        · have hltz : ¬ (k : Int) < (nk : Int) := by omega
          go_wp2
          obtain ⟨wv, rfl⟩ : ∃ W : World, W = wo := ⟨_, rfl⟩
          have P2 := P
          clear P hltz hlt hg hk B7 b7
          --MARKE7
          go_loopg [8] (nl + 1) (fun gh vk wr => ∃ (k : Nat), vk = .int .i64 (k : Int) ∧ k ≤ nl ∧ nl - k < gh ∧ Hid (Bu w sb fb zb B p m c' f ⟨u, a, d, g, df, na, av, nk, kv, nl, lv⟩ ⟨pa, ca, pk, ck, pl, cl⟩ [.int .i64 0, .int .i64 1, .int .i64 2, .int .i64 16, .int .i64 999, .int .i64 1000, .int .i64 1001] wr))
          case atStart => exact ⟨0, by go_num, by omega, by omega, P2⟩
          case round =>
            clear P2
            obtain ⟨wo, rfl⟩ : ∃ wo : World, wo = wr := ⟨_, rfl⟩
            obtain ⟨k, rfl, hk, hg, P⟩ := hrel
            have B7 := fun q os => ((Blk.grow P.out.blk q os).cell 7 rfl)
            have b7 := P.out.blk.cell 7 rfl
            by_cases hlt : k < nl
            · have hltz : (k : Int) < (nl : Int) := by omega
              have hk0 : (0 : Int) ≤ (k : Int) := by omega
              have hn5 : nl ≤ 5 := by
                have := GF.out.nl
                dsimp only at this
                omega
              have hk5 : (k : Int) ≤ 5 := by omega
              have SRW := P.out.own.fat.lv (by
                show 0 < nl
                omega)
              obtain ⟨b, off, ep, hb, hc⟩ := SRW
              replace ep : pl = some ⟨b, off, none⟩ := ep
              subst ep
              replace hc : ∀ i, i < nl → ∀ j, j < 4 → wo.cell? ⟨b, off + i * 4 + j, none⟩ = some (lgC lv i j) := hc
              have hgr : Hid (∀ q os, Grew wo (grow (wo.drewN q) os)) := fun q os => ((Grew.refl wo).drewN q).grow os
              have d0 : ∀ q os, (grow (wo.drewN q) os).cell? ⟨b, off + k * 4, none⟩ = some (.int .i32 (lv k).a) := fun q os => ((hgr.out q os).1.cell (p := ⟨b, off + k * 4 + 0, none⟩) hb).trans (hc k hlt 0 (by decide))
              have d1 : ∀ q os, (grow (wo.drewN q) os).cell? ⟨b, off + k * 4 + 1, none⟩ = some (.int .i32 (lv k).b) := fun q os => ((hgr.out q os).1.cell (p := ⟨b, off + k * 4 + 1, none⟩) hb).trans (hc k hlt 1 (by decide))
              have hx : -2147483648 ≤ (lv k).a ∧ (lv k).a ≤ 2147483647 := by
                obtain ⟨x, y, hl⟩ := GF.out.lv
                have := (hl.ok k hlt).1
                dsimp only at this
                omega
              have KC := fun q os => hide (KM.out 20 (lv k).a (lv k).b _ hx (P.out.grew (hgr.out q os)))
              clear hc hb hx
              generalize (lv k).a = x at *
              generalize (lv k).b = y at *
              have g0 := fun q os => (Blk.grow P.out.blk q os).cell 0 rfl
              have g1 := fun q os => (Blk.grow P.out.blk q os).cell 1 rfl
              have g2 := fun q os => (Blk.grow P.out.blk q os).cell 2 rfl
              have g3 := fun q os => (Blk.grow P.out.blk q os).cell 3 rfl
              have g4 := fun q os => (Blk.grow P.out.blk q os).cell 4 rfl
              have g5 := fun q os => (Blk.grow P.out.blk q os).cell 5 rfl
              have g6 := fun q os => (Blk.grow P.out.blk q os).cell 6 rfl
              have g7 := fun q os => (Blk.grow P.out.blk q os).cell 7 rfl
              go_wp2
              --MARKL8
              refine wp_region_calm (by kernel_rfl) (by kernel_rfl) ?_
              repeat (first | (refine lex_skip rfl (by rfl) ?_; go_simp) | (refine lex_calm rfl (by rfl) (fun K hK => ?_); go_simp; first | (refine hK _ ?_; clear hK K) | (apply Exists.intro; refine ⟨fun _ _ => ?_, hK _ ?_⟩; (with_reducible exact (KC _ _).out); clear hK K)))
              refine lex_nil ?_
              intro w6 G6
              have NX := hide (P.out.grew G6)
              clear G6 g0 g1 g2 g3 g4 g5 g6 g7 KC d0 d1 P B7 b7
              go_wp2
              go_roundg (nl - k)
              case measure => omega
              case rel => exact ⟨k + 1, by go_num, by omega, by omega, NX⟩
            · have hltz : ¬ (k : Int) < (nl : Int) := by omega
              have KN := hide (N_any w wo sb m c' p f 7 P.out.sr (by decide) (by decide))
              go_wp2_with fail
              refine KN.out.mono ?_
              rintro e w9 ⟨x, rfl, ⟨hx1, hx2⟩, q, SS⟩
              have P4 := hide (P.out.but q SS)
              clear q SS P KN hltz hlt hg hk B7 b7
              --MARKE8
              dsimp only
              go_upto_block 6 with fail
              --MARKT1
              go_cut [] from 80 (fun wx => Hid (Tl w fb wx))
              case first =>
                have hxx : x = 0 ∨ x = 1 ∨ x = 2 ∨ x = 3 ∨ x = 4 ∨ x = 5 ∨ x = 6 := by omega
                clear hx1 hx2
                rcases hxx with rfl | rfl | rfl | rfl | rfl | rfl | rfl
                · have KR := hide (Raw_any w w9 sb m c' p f P4.out.sr)
                  go_wp2_with fail
                  refine KR.out.mono ?_
                  rintro e w10 ⟨y, rfl, ⟨hy1, hy2⟩, q, SS⟩
                  have P5 := hide (P4.out.but q SS)
                  skip
                  have TL := hide ((P5.out.fb LF.out).units y).tl
                  have d0 := P5.out.blk.cell 0 rfl
                  have e0 := P5.out.blk.free 0
                  clear q SS KR P4 P5 KM GF LF
                  go_wp2
                  go_meet
                  case rel => exact TL
                · have KR := hide (N_any w w9 sb m c' p f 2 P4.out.sr (by decide) (by decide))
                  go_wp2_with fail
                  refine KR.out.mono ?_
                  rintro e w10 ⟨y, rfl, ⟨hy1, hy2⟩, q, SS⟩
                  have P5 := hide (P4.out.but q SS)
                  skip
                  have TL := hide (((P5.out.fb LF.out).asc 0).desc y).tl
                  have d1 := P5.out.blk.cell 1 rfl
                  have e1 := P5.out.blk.free 1
                  have d2 := P5.out.blk.cell 2 rfl
                  have e2 := P5.out.blk.free 2
                  clear q SS KR P4 P5 KM GF LF
                  go_wp2
                  go_meet
                  case rel => exact TL
                · have b7 := P4.out.blk.cell 5 rfl
                  by_cases hn : 0 < na
                  · have hnz : (0 : Int) < (na : Int) := by omega
                    have hn5 : na ≤ 5 := by
                      have := GF.out.na
                      dsimp only at this
                      omega
                    have ow := P4.out.own.a
                    obtain ⟨ab, ep⟩ : ∃ ab, pa = some ⟨ab, 0, none⟩ := by
                      rcases ow.2 with ⟨e, h0⟩ | ⟨g', cap, cur, e, _⟩
                      · exact absurd h0 (by
                          show na ≠ 0
                          omega)
                      · injection e with e
                        exact ⟨g', e⟩
                    subst ep
                    clear ow
                    have A4 : Hid (Ap w B 43 37 39 3 3 4 (.slice pk nk ck) (.slice pl nl cl) nk nl (flat nk 3 (knC kv)) (flat nl 4 (lgC lv)) (.slice (some ⟨ab, 0, none⟩) na ca) na (flat na 3 (adC av)) w9) := ⟨P4.out.sr.g, P4.out.n4, P4.out.own.a, P4.out.own.k, P4.out.own.l, (Ne.symm ne4), (Ne.symm ne5), P4.out.n6⟩
                    have hfl : Hid (w.heap.size ≤ fb) := P4.out.n5
                    have F4 : Hid (Blk w9 fb 26 [.int .i64 u, .int .i64 a, .int .i64 d, .int .i64 g, .int .i64 df, .slice (some ⟨ab, 0, none⟩) na ca, .slice pk nk ck, .slice pl nl cl]) := P4.out.blk
                    have b7 := F4.out.cell 5 rfl
                    obtain ⟨ia, a1, a2, a3, a4⟩ := info_parts info_ad
                    clear P4 KM GF
                    go_wp2
                    clear b7
                    --MARKR5
                    refine MJ.wp_region_chain (fun W => W.cell? ⟨fb, 5, none⟩ = some ((.slice (some ⟨ab, 0, none⟩) na ca))) [5, 6, 7, 9] [(105, 5), (106, 6), (107, 7)] (StEl (Ap w B 43 37 39 3 3 4 (.slice pk nk ck) (.slice pl nl cl) nk nl (flat nk 3 (knC kv)) (flat nl 4 (lgC lv))) (fun v W => Blk W fb 26 [.int .i64 u, .int .i64 a, .int .i64 d, .int .i64 g, .int .i64 df, v, .slice pk nk ck, .slice pl nl cl]) 43 (.slice (some ⟨ab, 0, none⟩) na ca) na (flat na 3 (adC av)) (.agg #[.int .i32 (av 0).f, .int .i32 (av 0).t, .int .i64 (av 0).w]) [.int .i32 (av 0).f, .int .i32 (av 0).t, .int .i64 (av 0).w]) (by kernel_rfl) (by kernel_rfl) (by simp) ?h0 ?hJ ?_
                    case h0 => exact ⟨A4.out.grew ((Grew.refl _).drew), F4.out.drew⟩
                    case hJ =>
                      rintro vals W (hl | hl) hS
                      · exact (StEl.fb hl hS).cell 5 rfl
                      · exact absurd hl (by rw [show MJ.sinkL _ _ = true by kernel_rfl]; exact Bool.noConfusion)
                    repeat (first | (refine MJ.lex_skip rfl (by rfl) ?_) | (refine MJ.lex_calm rfl (by rfl) (fun K hK => ?_); apply Exists.intro; refine ⟨fun W hW => ?_, ?_⟩; (dsimp only at hW; go_simp; exact rfl); go_simp; refine hK _ ?_; clear hK K))
                    refine MJ.lex_chain 0 rfl (by kernel_rfl) rfl ?_ ?_
                    · rintro vs W ⟨hP, hF⟩
                      have c0 : W.cell? ⟨ab, 0, none⟩ = some (.int .i32 (av 0).f) := (hP.own.cellAt (0 * 3 + 0) (by omega)).trans (flat_get (i := 0) (j := 0) (by omega) (by omega))
                      have c1 : W.cell? ⟨ab, 1, none⟩ = some (.int .i32 (av 0).t) := (hP.own.cellAt (0 * 3 + 1) (by omega)).trans (flat_get (i := 0) (j := 1) (by omega) (by omega))
                      have c2 : W.cell? ⟨ab, 2, none⟩ = some (.int .i64 (av 0).w) := (hP.own.cellAt (0 * 3 + 2) (by omega)).trans (flat_get (i := 0) (j := 2) (by omega) (by omega))
                      have FIN : Hid (StEl (Ap w B 43 37 39 3 3 4 (.slice pk nk ck) (.slice pl nl cl) nk nl (flat nk 3 (knC kv)) (flat nl 4 (lgC lv))) (fun v W => Blk W fb 26 [.int .i64 u, .int .i64 a, .int .i64 d, .int .i64 g, .int .i64 df, v, .slice pk nk ck, .slice pl nl cl]) 43 (.slice (some ⟨ab, 0, none⟩) na ca) na (flat na 3 (adC av)) (.agg #[.int .i32 (av 0).f, .int .i32 (av 0).t, .int .i64 (av 0).w]) [.int .i32 (av 0).f, .int .i32 (av 0).t, .int .i64 (av 0).w] (MJ.valsOf [5, 6, 7, 9] vs 0 ++ [(.agg #[.int .i32 (av 0).f, .int .i32 (av 0).t, .int .i64 (av 0).w])]) W) := ⟨rfl, hP, hF⟩
                      clear hP hF
                      simp [go_sem, evS, List.lookup, c0, c1, c2]
                      exact FIN.out
                    repeat (first | (refine MJ.lex_skip rfl (by rfl) ?_) | (refine MJ.lex_calm rfl (by rfl) (fun K hK => ?_); apply Exists.intro; refine ⟨fun W hW => ?_, ?_⟩; (dsimp only at hW; go_simp; exact rfl); go_simp; refine hK _ ?_; clear hK K))
                    refine MJ.lex_chain 1 rfl (by kernel_rfl) rfl ?_ ?_
                    · rintro vs W ⟨e, hP, hF⟩
                      replace e : vs 5 = (.agg #[.int .i32 (av 0).f, .int .i32 (av 0).t, .int .i64 (av 0).w]) := e
                      have FIN : Hid (StEl (Ap w B 43 37 39 3 3 4 (.slice pk nk ck) (.slice pl nl cl) nk nl (flat nk 3 (knC kv)) (flat nl 4 (lgC lv))) (fun v W => Blk W fb 26 [.int .i64 u, .int .i64 a, .int .i64 d, .int .i64 g, .int .i64 df, v, .slice pk nk ck, .slice pl nl cl]) 43 (.slice (some ⟨ab, 0, none⟩) na ca) na (flat na 3 (adC av)) (.agg #[.int .i32 (av 0).f, .int .i32 (av 0).t, .int .i64 (av 0).w]) [.int .i32 (av 0).f, .int .i32 (av 0).t, .int .i64 (av 0).w] (MJ.valsOf [5, 6, 7, 9] vs 1 ++ [.slice (some ⟨W.heap.size, 0, none⟩) 1 1]) (W.alloc (.cells [.int .i32 (av 0).f, .int .i32 (av 0).t, .int .i64 (av 0).w].toArray 43))) := ⟨⟨W.heap.size, rfl, Blk.new rfl⟩, hP.grew ((Grew.refl W).alloc _), hF.alloc _⟩
                      clear hP hF
                      simp [go_sem, evS, List.lookup, e]
                      exact FIN.out
                    repeat (first | (refine MJ.lex_skip rfl (by rfl) ?_) | (refine MJ.lex_calm rfl (by rfl) (fun K hK => ?_); apply Exists.intro; refine ⟨fun W hW => ?_, ?_⟩; (dsimp only at hW; go_simp; exact rfl); go_simp; refine hK _ ?_; clear hK K))
                    refine MJ.lex_chain 2 rfl (by kernel_rfl) rfl ?_ ?_
                    · rintro vs W ⟨⟨g', e, hB⟩, hP, hF⟩
                      replace e : vs 6 = .slice (some ⟨g', 0, none⟩) 1 1 := e
                      refine does_append W _ _ 22 rfl B 43 ia _ 3 16 Try.underlying22 a1 a2 a3 a4 rfl (by decide) ((.slice (some ⟨ab, 0, none⟩) na ca)) na _ rfl hP.own ⟨g', 0, none⟩ 1 1 [.int .i32 (av 0).f, .int .i32 (av 0).t, .int .i64 (av 0).w] e (by decide) rfl ?c1 ?c2 ?c3 ?c4 ?c5 ?_
                      case c1 =>
                        intro j u hj
                        rw [addr_add]
                        exact hB.cell j hj
                      case c2 => intro u hu; simp at hu; rcases hu with rfl | rfl | rfl <;> rfl
                      case c3 => unfold maxLen; omega
                      case c4 => omega
                      case c5 => exact hP.bz
                      intro v' w' ho hgr hd
                      exact ⟨hP.appended ho hgr hd, hP.box hF ne1 hgr⟩
                    repeat (first | (refine MJ.lex_skip rfl (by rfl) ?_) | (refine MJ.lex_calm rfl (by rfl) (fun K hK => ?_); apply Exists.intro; refine ⟨fun W hW => ?_, ?_⟩; (dsimp only at hW; go_simp; exact rfl); go_simp; refine hK _ ?_; clear hK K))
                    refine MJ.lex_chain 3 rfl (by kernel_rfl) rfl ?_ ?_
                    · rintro vs W ⟨hP, hF⟩
                      have d5 := hF.cell 5 rfl
                      have e5 := hF.free 5
                      have FIN : Hid (∀ z, StEl (Ap w B 43 37 39 3 3 4 (.slice pk nk ck) (.slice pl nl cl) nk nl (flat nk 3 (knC kv)) (flat nl 4 (lgC lv))) (fun v W => Blk W fb 26 [.int .i64 u, .int .i64 a, .int .i64 d, .int .i64 g, .int .i64 df, v, .slice pk nk ck, .slice pl nl cl]) 43 (.slice (some ⟨ab, 0, none⟩) na ca) na (flat na 3 (adC av)) (.agg #[.int .i32 (av 0).f, .int .i32 (av 0).t, .int .i64 (av 0).w]) [.int .i32 (av 0).f, .int .i32 (av 0).t, .int .i64 (av 0).w] (MJ.valsOf [5, 6, 7, 9] vs 3 ++ [z]) (W.setCell ⟨fb, 5, none⟩ (vs 7))) := fun z => ⟨hP.set hF ne1 ne2 ne3 hfl.out, hF.set 5 _⟩
                      obtain ⟨q0, cap0, e8⟩ := own_val hP.own
                      replace e8 : vs 7 = .slice q0 (na + 1) cap0 := e8
                      clear hP hF
                      rw [e8] at FIN
                      simp [go_sem, evS, List.lookup, d5, e5, e8]
                      exact FIN.out _
                    refine MJ.lex_nil ?_
                    rintro vs w11 ⟨hP, hF⟩
                    have TL : Hid (Tl w fb w11) := ap_tl_a 0 LF.out hP hF
                    clear hP hF A4 F4
                    simp only [fillS, List.foldl_cons, List.foldl_nil]
                    generalize vs 5 = y5; generalize vs 6 = y6; generalize vs 7 = y7
                    go_simp
                    go_wp2
                    go_meet
                    case rel => exact TL
                  · have hnz : ¬ (0 : Int) < (na : Int) := by omega
                    have TL : Hid (Tl w fb w9) := (P4.out.fb LF.out).tl
                    clear P4 KM GF LF
                    go_wp2
                    go_meet
                    case rel => exact TL
                · have b7 := P4.out.blk.cell 6 rfl
                  by_cases hn : 0 < nk
                  · have hnz : (0 : Int) < (nk : Int) := by omega
                    have hn5 : nk ≤ 5 := by
                      have := GF.out.nk
                      dsimp only at this
                      omega
                    obtain ⟨m1, hm1⟩ : ∃ m1, nk = m1 + 1 := ⟨nk - 1, by omega⟩
                    have wm1 : IntKind.i64.wrap ((nk : Int) - 1) = (m1 : Int) := by rw [hm1]; exact (congrArg _ (by omega)).trans (wr (x := (m1 : Int)) (by omega) (by omega))
                    have m10 : (0 : Int) ≤ (m1 : Int) := by omega
                    have m1n : (m1 : Int) < (nk : Int) := by omega
                    replace hm1 := hide hm1
                    have ow := P4.out.own.k
                    obtain ⟨ab, ep⟩ : ∃ ab, pk = some ⟨ab, 0, none⟩ := by
                      rcases ow.2 with ⟨e, h0⟩ | ⟨g', cap, cur, e, _⟩
                      · exact absurd h0 (by
                          show nk ≠ 0
                          omega)
                      · injection e with e
                        exact ⟨g', e⟩
                    subst ep
                    clear ow
                    have A4 : Hid (Ap w B 37 43 39 3 3 4 (.slice pa na ca) (.slice pl nl cl) na nl (flat na 3 (adC av)) (flat nl 4 (lgC lv)) (.slice (some ⟨ab, 0, none⟩) nk ck) nk (flat nk 3 (knC kv)) w9) := ⟨P4.out.sr.g, P4.out.n4, P4.out.own.k, P4.out.own.a, P4.out.own.l, ne4, (Ne.symm ne6), P4.out.n6⟩
                    have hfl : Hid (w.heap.size ≤ fb) := P4.out.n5
                    have F4 : Hid (Blk w9 fb 26 [.int .i64 u, .int .i64 a, .int .i64 d, .int .i64 g, .int .i64 df, .slice pa na ca, .slice (some ⟨ab, 0, none⟩) nk ck, .slice pl nl cl]) := P4.out.blk
                    have b7 := F4.out.cell 6 rfl
                    obtain ⟨ia, a1, a2, a3, a4⟩ := info_parts info_kn
                    clear P4 KM GF
                    go_wp2
                    clear b7
                    --MARKR6
                    refine MJ.wp_region_chain (fun W => W.cell? ⟨fb, 6, none⟩ = some ((.slice (some ⟨ab, 0, none⟩) nk ck))) [9, 10, 11, 13] [(124, 9), (125, 10), (126, 11)] (StEl (Ap w B 37 43 39 3 3 4 (.slice pa na ca) (.slice pl nl cl) na nl (flat na 3 (adC av)) (flat nl 4 (lgC lv))) (fun v W => Blk W fb 26 [.int .i64 u, .int .i64 a, .int .i64 d, .int .i64 g, .int .i64 df, .slice pa na ca, v, .slice pl nl cl]) 37 (.slice (some ⟨ab, 0, none⟩) nk ck) nk (flat nk 3 (knC kv)) (.agg #[.int .i32 (kv m1).a, .int .i32 (kv m1).b, .int .i64 (kv m1).d]) [.int .i32 (kv m1).a, .int .i32 (kv m1).b, .int .i64 (kv m1).d]) (by kernel_rfl) (by kernel_rfl) (by simp) ?h0 ?hJ ?_
                    case h0 => exact ⟨A4.out.grew ((Grew.refl _).drew), F4.out.drew⟩
                    case hJ =>
                      rintro vals W (hl | hl) hS
                      · exact (StEl.fb hl hS).cell 6 rfl
                      · exact absurd hl (by rw [show MJ.sinkL _ _ = true by kernel_rfl]; exact Bool.noConfusion)
                    repeat (first | (refine MJ.lex_skip rfl (by rfl) ?_) | (refine MJ.lex_calm rfl (by rfl) (fun K hK => ?_); apply Exists.intro; refine ⟨fun W hW => ?_, ?_⟩; (dsimp only at hW; go_simp; exact rfl); go_simp; refine hK _ ?_; clear hK K))
                    refine MJ.lex_chain 0 rfl (by kernel_rfl) rfl ?_ ?_
                    · rintro vs W ⟨hP, hF⟩
                      have c0 : W.cell? ⟨ab, m1 * 3, none⟩ = some (.int .i32 (kv m1).a) := (hP.own.cellAt (m1 * 3 + 0) (by omega)).trans (flat_get (i := m1) (j := 0) (by omega) (by omega))
                      have c1 : W.cell? ⟨ab, m1 * 3 + 1, none⟩ = some (.int .i32 (kv m1).b) := (hP.own.cellAt (m1 * 3 + 1) (by omega)).trans (flat_get (i := m1) (j := 1) (by omega) (by omega))
                      have c2 : W.cell? ⟨ab, m1 * 3 + 2, none⟩ = some (.int .i64 (kv m1).d) := (hP.own.cellAt (m1 * 3 + 2) (by omega)).trans (flat_get (i := m1) (j := 2) (by omega) (by omega))
                      have FIN : Hid (StEl (Ap w B 37 43 39 3 3 4 (.slice pa na ca) (.slice pl nl cl) na nl (flat na 3 (adC av)) (flat nl 4 (lgC lv))) (fun v W => Blk W fb 26 [.int .i64 u, .int .i64 a, .int .i64 d, .int .i64 g, .int .i64 df, .slice pa na ca, v, .slice pl nl cl]) 37 (.slice (some ⟨ab, 0, none⟩) nk ck) nk (flat nk 3 (knC kv)) (.agg #[.int .i32 (kv m1).a, .int .i32 (kv m1).b, .int .i64 (kv m1).d]) [.int .i32 (kv m1).a, .int .i32 (kv m1).b, .int .i64 (kv m1).d] (MJ.valsOf [9, 10, 11, 13] vs 0 ++ [(.agg #[.int .i32 (kv m1).a, .int .i32 (kv m1).b, .int .i64 (kv m1).d])]) W) := ⟨rfl, hP, hF⟩
                      clear hP hF
                      simp [go_sem, evS, List.lookup, c0, c1, c2]
                      exact FIN.out
                    repeat (first | (refine MJ.lex_skip rfl (by rfl) ?_) | (refine MJ.lex_calm rfl (by rfl) (fun K hK => ?_); apply Exists.intro; refine ⟨fun W hW => ?_, ?_⟩; (dsimp only at hW; go_simp; exact rfl); go_simp; refine hK _ ?_; clear hK K))
                    refine MJ.lex_chain 1 rfl (by kernel_rfl) rfl ?_ ?_
                    · rintro vs W ⟨e, hP, hF⟩
                      replace e : vs 9 = (.agg #[.int .i32 (kv m1).a, .int .i32 (kv m1).b, .int .i64 (kv m1).d]) := e
                      have FIN : Hid (StEl (Ap w B 37 43 39 3 3 4 (.slice pa na ca) (.slice pl nl cl) na nl (flat na 3 (adC av)) (flat nl 4 (lgC lv))) (fun v W => Blk W fb 26 [.int .i64 u, .int .i64 a, .int .i64 d, .int .i64 g, .int .i64 df, .slice pa na ca, v, .slice pl nl cl]) 37 (.slice (some ⟨ab, 0, none⟩) nk ck) nk (flat nk 3 (knC kv)) (.agg #[.int .i32 (kv m1).a, .int .i32 (kv m1).b, .int .i64 (kv m1).d]) [.int .i32 (kv m1).a, .int .i32 (kv m1).b, .int .i64 (kv m1).d] (MJ.valsOf [9, 10, 11, 13] vs 1 ++ [.slice (some ⟨W.heap.size, 0, none⟩) 1 1]) (W.alloc (.cells [.int .i32 (kv m1).a, .int .i32 (kv m1).b, .int .i64 (kv m1).d].toArray 37))) := ⟨⟨W.heap.size, rfl, Blk.new rfl⟩, hP.grew ((Grew.refl W).alloc _), hF.alloc _⟩
                      clear hP hF
                      simp [go_sem, evS, List.lookup, e]
                      exact FIN.out
                    repeat (first | (refine MJ.lex_skip rfl (by rfl) ?_) | (refine MJ.lex_calm rfl (by rfl) (fun K hK => ?_); apply Exists.intro; refine ⟨fun W hW => ?_, ?_⟩; (dsimp only at hW; go_simp; exact rfl); go_simp; refine hK _ ?_; clear hK K))
                    refine MJ.lex_chain 2 rfl (by kernel_rfl) rfl ?_ ?_
                    · rintro vs W ⟨⟨g', e, hB⟩, hP, hF⟩
                      replace e : vs 10 = .slice (some ⟨g', 0, none⟩) 1 1 := e
                      refine does_append W _ _ 23 rfl B 37 ia _ 3 16 Try.underlying23 a1 a2 a3 a4 rfl (by decide) ((.slice (some ⟨ab, 0, none⟩) nk ck)) nk _ rfl hP.own ⟨g', 0, none⟩ 1 1 [.int .i32 (kv m1).a, .int .i32 (kv m1).b, .int .i64 (kv m1).d] e (by decide) rfl ?c1 ?c2 ?c3 ?c4 ?c5 ?_
                      case c1 =>
                        intro j u hj
                        rw [addr_add]
                        exact hB.cell j hj
                      case c2 => intro u hu; simp at hu; rcases hu with rfl | rfl | rfl <;> rfl
                      case c3 => unfold maxLen; omega
                      case c4 => omega
                      case c5 => exact hP.bz
                      intro v' w' ho hgr hd
                      exact ⟨hP.appended ho hgr hd, hP.box hF ne2 hgr⟩
                    repeat (first | (refine MJ.lex_skip rfl (by rfl) ?_) | (refine MJ.lex_calm rfl (by rfl) (fun K hK => ?_); apply Exists.intro; refine ⟨fun W hW => ?_, ?_⟩; (dsimp only at hW; go_simp; exact rfl); go_simp; refine hK _ ?_; clear hK K))
                    refine MJ.lex_chain 3 rfl (by kernel_rfl) rfl ?_ ?_
                    · rintro vs W ⟨hP, hF⟩
                      have d5 := hF.cell 6 rfl
                      have e5 := hF.free 6
                      have FIN : Hid (∀ z, StEl (Ap w B 37 43 39 3 3 4 (.slice pa na ca) (.slice pl nl cl) na nl (flat na 3 (adC av)) (flat nl 4 (lgC lv))) (fun v W => Blk W fb 26 [.int .i64 u, .int .i64 a, .int .i64 d, .int .i64 g, .int .i64 df, .slice pa na ca, v, .slice pl nl cl]) 37 (.slice (some ⟨ab, 0, none⟩) nk ck) nk (flat nk 3 (knC kv)) (.agg #[.int .i32 (kv m1).a, .int .i32 (kv m1).b, .int .i64 (kv m1).d]) [.int .i32 (kv m1).a, .int .i32 (kv m1).b, .int .i64 (kv m1).d] (MJ.valsOf [9, 10, 11, 13] vs 3 ++ [z]) (W.setCell ⟨fb, 6, none⟩ (vs 11))) := fun z => ⟨hP.set hF ne2 ne1 ne3 hfl.out, hF.set 6 _⟩
                      obtain ⟨q0, cap0, e8⟩ := own_val hP.own
                      replace e8 : vs 11 = .slice q0 (nk + 1) cap0 := e8
                      clear hP hF
                      rw [e8] at FIN
                      simp [go_sem, evS, List.lookup, d5, e5, e8]
                      exact FIN.out _
                    refine MJ.lex_nil ?_
                    rintro vs w11 ⟨hP, hF⟩
                    have TL : Hid (Tl w fb w11) := ap_tl_k m1 LF.out hP hF
                    clear hP hF A4 F4
                    simp only [fillS, List.foldl_cons, List.foldl_nil]
                    generalize vs 9 = y9; generalize vs 10 = y10; generalize vs 11 = y11
                    go_simp
                    go_wp2
                    go_meet
                    case rel => exact TL
                  · have hnz : ¬ (0 : Int) < (nk : Int) := by omega
                    have TL : Hid (Tl w fb w9) := (P4.out.fb LF.out).tl
                    clear P4 KM GF LF
                    go_wp2
                    go_meet
                    case rel => exact TL
                · have b7 := P4.out.blk.cell 7 rfl
                  by_cases hn : 0 < nl
                  · have hnz : (0 : Int) < (nl : Int) := by omega
                    have hn5 : nl ≤ 5 := by
                      have := GF.out.nl
                      dsimp only at this
                      omega
                    have ow := P4.out.own.l
                    obtain ⟨ab, ep⟩ : ∃ ab, pl = some ⟨ab, 0, none⟩ := by
                      rcases ow.2 with ⟨e, h0⟩ | ⟨g', cap, cur, e, _⟩
                      · exact absurd h0 (by
                          show nl ≠ 0
                          omega)
                      · injection e with e
                        exact ⟨g', e⟩
                    subst ep
                    clear ow KM GF
                    go_wp2
                    clear b7
                    --MARKR7
                    refine MJ.wp_region_chain (fun W => W.cell? ⟨fb, 7, none⟩ = some (.slice (some ⟨ab, 0, none⟩) nl cl)) [3, 4, 7] [(137, 3), (138, 4)] (StGl (fun W => Bu w sb fb zb B p m c' f ⟨u, a, d, g, df, na, av, nk, kv, nl, lv⟩ ⟨pa, ca, pk, ck, some ⟨ab, 0, none⟩, cl⟩ [.int .i64 0, .int .i64 1, .int .i64 2, .int .i64 16, .int .i64 999, .int .i64 1000, .int .i64 1001] W) (Tl w fb) (fun W => W.cell? ⟨fb, 7, none⟩ = some (.slice (some ⟨ab, 0, none⟩) nl cl))) (by kernel_rfl) (by kernel_rfl) (by simp) ?h0 ?hJ ?_
                    case h0 => exact P4.out.grew ((Grew.refl _).drew)
                    case hJ =>
                      intro vals W _ hS
                      exact hS.j fun w h => h.blk.cell 7 rfl
                    repeat (first | (refine MJ.lex_skip rfl (by rfl) ?_) | (refine MJ.lex_calm rfl (by rfl) (fun K hK => ?_); apply Exists.intro; refine ⟨fun W hW => ?_, ?_⟩; (dsimp only at hW; go_simp; exact rfl); go_simp; refine hK _ ?_; clear hK K))
                    refine MJ.lex_chain 0 rfl (by kernel_rfl) rfl ?_ ?_
                    · rintro vs W hP
                      replace hP : Hid (Bu w sb fb zb B p m c' f ⟨u, a, d, g, df, na, av, nk, kv, nl, lv⟩ ⟨pa, ca, pk, ck, some ⟨ab, 0, none⟩, cl⟩ [.int .i64 0, .int .i64 1, .int .i64 2, .int .i64 16, .int .i64 999, .int .i64 1000, .int .i64 1001] W) := hP
                      have KN := hide (N_any w W sb m c' p f 2 hP.out.sr (by decide) (by decide))
                      simp [go_sem, evS, List.lookup]
                      refine KN.out.mono ?_
                      rintro e w' ⟨x, rfl, hx, q, SS⟩
                      exact ⟨_, rfl, ⟨x, hx, rfl⟩, hP.out.but q SS⟩
                    refine MJ.lex_chain 1 rfl (by kernel_rfl) rfl ?_ ?_
                    · rintro vs W ⟨⟨x, hx, e⟩, hP⟩
                      replace e : vs 3 = .int .i64 x := e
                      have wx : IntKind.i64.wrap (1114111 + x) = 1114111 + x := wr (by omega) (by omega)
                      have FIN : Hid (StGl (fun W => Bu w sb fb zb B p m c' f ⟨u, a, d, g, df, na, av, nk, kv, nl, lv⟩ ⟨pa, ca, pk, ck, some ⟨ab, 0, none⟩, cl⟩ [.int .i64 0, .int .i64 1, .int .i64 2, .int .i64 16, .int .i64 999, .int .i64 1000, .int .i64 1001] W) (Tl w fb) (fun W => W.cell? ⟨fb, 7, none⟩ = some (.slice (some ⟨ab, 0, none⟩) nl cl)) (MJ.valsOf [3, 4, 7] vs 1 ++ [.int .i64 (1114111 + x)]) W) := ⟨⟨_, rfl⟩, hP⟩
                      clear hP
                      simp [go_sem, evS, List.lookup, e]
                      first
                        | exact FIN.out
                        | (rw [wx]; exact FIN.out)
                        | (simp only [wx]; exact FIN.out)
                    repeat (first | (refine MJ.lex_skip rfl (by rfl) ?_) | (refine MJ.lex_calm rfl (by rfl) (fun K hK => ?_); apply Exists.intro; refine ⟨fun W hW => ?_, ?_⟩; (dsimp only at hW; go_simp; exact rfl); go_simp; refine hK _ ?_; clear hK K))
                    refine MJ.lex_chain 2 rfl (by kernel_rfl) rfl ?_ ?_
                    · rintro vs W ⟨⟨x, e⟩, hP⟩
                      replace e : vs 4 = .int .i64 x := e
                      replace hP : Bu w sb fb zb B p m c' f ⟨u, a, d, g, df, na, av, nk, kv, nl, lv⟩ ⟨pa, ca, pk, ck, some ⟨ab, 0, none⟩, cl⟩ [.int .i64 0, .int .i64 1, .int .i64 2, .int .i64 16, .int .i64 999, .int .i64 1000, .int .i64 1001] W := hP
                      have d2 : W.cell? ⟨ab, 2, none⟩ = some (.int .i64 (lv 0).g) := (hP.own.l.cellAt (0 * 4 + 2) (by
                        show 0 * 4 + 2 < nl * 4
                        omega)).trans (flat_get (i := 0) (j := 2) hn (by omega))
                      have e2 : W.frozen? ⟨ab, 2, none⟩ = false := hP.own.l.frozenAt 2
                      have FIN : Hid (∀ z, StGl (fun W => Bu w sb fb zb B p m c' f ⟨u, a, d, g, df, na, av, nk, kv, nl, lv⟩ ⟨pa, ca, pk, ck, some ⟨ab, 0, none⟩, cl⟩ [.int .i64 0, .int .i64 1, .int .i64 2, .int .i64 16, .int .i64 999, .int .i64 1000, .int .i64 1001] W) (Tl w fb) (fun W => W.cell? ⟨fb, 7, none⟩ = some (.slice (some ⟨ab, 0, none⟩) nl cl)) (MJ.valsOf [3, 4, 7] vs 2 ++ [z]) (W.setCell ⟨ab, 2, none⟩ (.int .i64 x))) := fun z => ⟨(hP.fb LF.out).glyph hn x, (hP.blk.other (fun e => own_ne_blk hP.own.l hP.blk ne3 ab rfl e.symm) _).cell 7 rfl⟩
                      clear hP
                      simp [go_sem, evS, List.lookup, d2, e2, e]
                      exact FIN.out _
                    refine MJ.lex_nil ?_
                    rintro vs w11 ⟨hP, _⟩
                    have TL : Hid (Tl w fb w11) := hP
                    clear hP P4
                    simp only [fillS, List.foldl_cons, List.foldl_nil]
                    generalize vs 3 = y3; generalize vs 4 = y4
                    go_simp
                    go_wp2
                    go_meet
                    case rel => exact TL
                  · have hnz : ¬ (0 : Int) < (nl : Int) := by omega
                    have TL : Hid (Tl w fb w9) := (P4.out.fb LF.out).tl
                    clear P4 KM GF LF
                    go_wp2
                    go_meet
                    case rel => exact TL
                · have KR := hide (N_any w w9 sb m c' p f 2 P4.out.sr (by decide) (by decide))
                  go_wp2_with fail
                  refine KR.out.mono ?_
                  rintro e w10 ⟨y, rfl, ⟨hy1, hy2⟩, q, SS⟩
                  have P5 := hide (P4.out.but q SS)
                  have wy : IntKind.i64.wrap (4096 + y) = 4096 + y := wr (by omega) (by omega)
                  have TL := hide ((P5.out.fb LF.out).dflt (4096 + y)).tl
                  have d4 := P5.out.blk.cell 4 rfl
                  have e4 := P5.out.blk.free 4
                  clear q SS KR P4 P5 KM GF LF
                  go_wp2
                  go_meet
                  case rel => exact TL
                · have KR := hide (Raw_any w w9 sb m c' p f P4.out.sr)
                  go_wp2_with fail
                  refine KR.out.mono ?_
                  rintro e w10 ⟨y, rfl, ⟨hy1, hy2⟩, q, SS⟩
                  have P5 := hide (P4.out.but q SS)
                  skip
                  have TL := hide ((P5.out.fb LF.out).gap y).tl
                  have d3 := P5.out.blk.cell 3 rfl
                  have e3 := P5.out.blk.free 3
                  clear q SS KR P4 P5 KM GF LF
                  go_wp2
                  go_meet
                  case rel => exact TL
              case rest =>
                --MARKT2
                obtain ⟨F', s', G5, B5, F5, L5⟩ := hcut.out
                obtain ⟨u', a', d', g', df', na', av', nk', kv', nl', lv'⟩ := F'
                obtain ⟨pa', ca', pk', ck', pl', cl'⟩ := s'
                replace G5 := hide G5
                replace B5 : Hid (Blk wc fb 26 [.int .i64 u', .int .i64 a', .int .i64 d', .int .i64 g', .int .i64 df', .slice pa' na' ca', .slice pk' nk' ck', .slice pl' nl' cl']) := B5
                have KS : Hid (Calls Try.prog 6 #[.agg #[.int .i64 u', .int .i64 a', .int .i64 d', .int .i64 g', .int .i64 df', .slice pa' na' ca', .slice pk' nk' ck', .slice pl' nl' cl'], .int .i64 16, .int .i32 97, .int .i32 98] wc fun e w' => e = .returned (.bool true) ∧ Grew wc w') := same_any ⟨u', a', d', g', df', na', av', nk', kv', nl', lv'⟩ ⟨pa', ca', pk', ck', pl', cl'⟩ 16 97 98 wc F5 L5 (by decide)
                clear hcut F5 L5 P4 KM GF LF
                have c0 := B5.out.cell 0 rfl
                have c1 := B5.out.cell 1 rfl
                have c2 := B5.out.cell 2 rfl
                have c3 := B5.out.cell 3 rfl
                have c4 := B5.out.cell 4 rfl
                have c5 := B5.out.cell 5 rfl
                have c6 := B5.out.cell 6 rfl
                have c7 := B5.out.cell 7 rfl
                go_wp2_with fail
                refine KS.out.mono ?_
                rintro e w12 ⟨rfl, q⟩
                have GA := hide (G5.out.trans q)
                clear q KS G5 B5 c0 c1 c2 c3 c4 c5 c6 c7
                go_wp2_with fail
                refine (awake_any _).mono ?_
                rintro e w13 ⟨rfl, q⟩
                have GB := hide (GA.out.trans q)
                clear q GA
                go_wp2
                go_ret
                exact ⟨rfl, GB.out.1⟩
end Go.Proofs.Ytfiaongnogiegaa
