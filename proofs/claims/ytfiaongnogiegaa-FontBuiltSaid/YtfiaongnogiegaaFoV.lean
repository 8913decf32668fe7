/- What Font of the verifier's reader of numbers builds: a valid font; no condition. -/
import Derived.Test.YtfiaongnogiegaaFoW
namespace Go.Proofs.Ytfiaongnogiegaa
open Go.RowKit Go.Sort
set_option linter.unusedVariables false
set_option linter.unusedSimpArgs false

theorem info_ad : (Try.prog.info? 43).map (fun i => (i.zero, i.size, i.bytes)) = some (some (.agg #[.int .i32 0, .int .i32 0, .int .i64 0]), 3, 16) := by kernel_rfl
theorem info_kn : (Try.prog.info? 37).map (fun i => (i.zero, i.size, i.bytes)) = some (some (.agg #[.int .i32 0, .int .i32 0, .int .i64 0]), 3, 16) := by kernel_rfl
theorem info_lg : (Try.prog.info? 39).map (fun i => (i.zero, i.size, i.bytes)) = some (some (.agg #[.int .i32 0, .int .i32 0, .int .i64 0, .int .i64 0]), 4, 24) := by kernel_rfl

set_option maxRecDepth 100000 in
set_option maxHeartbeats 16000000 in
theorem Font_any (w0 w : World) (sb m c : Nat) (p : Option Addr) (f : Nat → Int) (H : SR w0 w sb p m c f) :
    Calls Try.prog 9 #[.pointer (some ⟨sb, 0, none⟩)] w fun e w' => ∃ (F : Fn) (s : Sl), e = .returned (F.v s) ∧ Good F ∧ Own3 w.heap.size F s w' ∧ SR w0 w' sb p m c f ∧ But sb w w' := by
  obtain ⟨ia, a1, a2, a3, a4⟩ := info_parts info_ad
  obtain ⟨ik, k1, k2, k3, k4⟩ := info_parts info_kn
  obtain ⟨il, l1, l2, l3, l4⟩ := info_parts info_lg
  have HS := hide H
  have hsb : Hid (sb < w.heap.size) := by obtain ⟨t, _, k⟩ := H.src; exact k.lt
  obtain ⟨rb, hrb⟩ : ∃ rb, rb = w.heap.size := ⟨_, rfl⟩
  have R0 : Hid (Blk (w.alloc (.cells [.int .i64 0, .int .i64 0, .int .i64 0, .int .i64 0, .int .i64 0, .slice none 0 0, .slice none 0 0, .slice none 0 0].toArray 26)) rb 26 [.int .i64 0, .int .i64 0, .int .i64 0, .int .i64 0, .int .i64 0, .slice none 0 0, .slice none 0 0, .slice none 0 0]) := Blk.new hrb
  have G0 : Hid (Grew w (w.alloc (.cells [.int .i64 0, .int .i64 0, .int .i64 0, .int .i64 0, .int .i64 0, .slice none 0 0, .slice none 0 0, .slice none 0 0].toArray 26))) := (Grew.refl w).alloc _
  clear H
  go_enter Try.func9, Try.ntmps9
  go_wp2_with fail
  rw [← hrb]
  have hrw := hide hrb
  clear hrb
  generalize (w.alloc (.cells [.int .i64 0, .int .i64 0, .int .i64 0, .int .i64 0, .int .i64 0, .slice none 0 0, .slice none 0 0, .slice none 0 0].toArray 26)) = w1 at *
  have S1 := hide (HS.out.grew G0.out)
  have B1 := hide (But.of_grew (b := sb) G0.out)
  have HS0 : Hid (w0.heap.size ≤ w.heap.size) := HS.out.g.size
  clear HS G0
  have hrs : Hid (rb ≠ sb) := by have := hsb.out; have := hrw.out; show rb ≠ sb; omega
  have K1 := hide (Range_any w0 w1 sb m c p f 16 200 S1.out (by decide) (by decide) (by decide))
  skip
  refine K1.out.mono ?_
  rintro e w2 ⟨x1, rfl, hx1, q, S⟩
  have S2 := hide S
  have B2 := hide (B1.out.trans q)
  have R1 := hide (q.blk R0.out hrs.out)
  replace hx1 := hide hx1
  clear S q K1 B1 S1 R0
  have K2 := hide (Range_any w0 w2 sb m c p f 1 100 S2.out (by decide) (by decide) (by decide))
  go_wp2_with fail
  refine K2.out.mono ?_
  rintro e w3 ⟨x2, rfl, hx2, q, S⟩
  have S3 := hide S
  have B3 := hide (B2.out.trans q)
  have R2 := hide (q.blk R1.out hrs.out)
  replace hx2 := hide hx2
  clear S q K2 B2 S2 R1
  have K3 := hide (N_any w0 w3 sb m c p f 40 S3.out (by decide) (by decide))
  go_wp2_with fail
  refine K3.out.mono ?_
  rintro e w4 ⟨x3, rfl, hx3, q, S⟩
  have S4 := hide S
  have B4 := hide (B3.out.trans q)
  have R3 := hide (q.blk R2.out hrs.out)
  replace hx3 := hide hx3
  clear S q K3 B3 S3 R2
  have K4 := hide (N_any w0 w4 sb m c p f 30 S4.out (by decide) (by decide))
  go_wp2_with fail
  refine K4.out.mono ?_
  rintro e w5 ⟨x4, rfl, hx4, q, S⟩
  have S5 := hide S
  have B5 := hide (B4.out.trans q)
  have R4 := hide (q.blk R3.out hrs.out)
  replace hx4 := hide hx4
  clear S q K4 B4 S4 R3
  have K5 := hide (N_any w0 w5 sb m c p f 120 S5.out (by decide) (by decide))
  go_wp2_with fail
  refine K5.out.mono ?_
  rintro e w6 ⟨x5, rfl, hx5, q, S⟩
  have S6 := hide S
  have B6 := hide (B5.out.trans q)
  have R5 := hide (q.blk R4.out hrs.out)
  replace hx5 := hide hx5
  clear S q K5 B5 S5 R4
  obtain ⟨fb, hfb⟩ : ∃ fb, fb = w6.heap.size := ⟨_, rfl⟩
  have F0 : Hid (Blk (w6.alloc (.cells [.int .i64 x1, .int .i64 x2, .int .i64 x3, .int .i64 x4, .int .i64 x5, .slice none 0 0, .slice none 0 0, .slice none 0 0].toArray 26)) fb 26 [.int .i64 x1, .int .i64 x2, .int .i64 x3, .int .i64 x4, .int .i64 x5, .slice none 0 0, .slice none 0 0, .slice none 0 0]) := Blk.new hfb
  go_wp2_with fail
  rw [← hfb]
  have S7 := hide (S6.out.grew ((Grew.refl w6).alloc (.cells [.int .i64 x1, .int .i64 x2, .int .i64 x3, .int .i64 x4, .int .i64 x5, .slice none 0 0, .slice none 0 0, .slice none 0 0].toArray 26)))
  have B7 := hide (B6.out.alloc (.cells [.int .i64 x1, .int .i64 x2, .int .i64 x3, .int .i64 x4, .int .i64 x5, .slice none 0 0, .slice none 0 0, .slice none 0 0].toArray 26))
  have R7 := hide (R5.out.alloc (.cells [.int .i64 x1, .int .i64 x2, .int .i64 x3, .int .i64 x4, .int .i64 x5, .slice none 0 0, .slice none 0 0, .slice none 0 0].toArray 26))
  have hfw := hide hfb
  have B6' := hide B6.out
  have R5' := hide R5.out
  clear hfb S6 B6 R5
  generalize (w6.alloc (.cells [.int .i64 x1, .int .i64 x2, .int .i64 x3, .int .i64 x4, .int .i64 x5, .slice none 0 0, .slice none 0 0, .slice none 0 0].toArray 26)) = w7 at *
  have KA := hide (alphabet_any w7)
  refine KA.out.mono ?_
  rintro e w8 ⟨ab, rfl, hab, q, A8⟩
  have S8 := hide (S7.out.grew q)
  have B8 := hide (B7.out.trans (But.of_grew q))
  have R8 := hide (R7.out.grew q)
  have F8 := hide (F0.out.grew q)
  have A8 := hide A8
  have hw8 := hide q.size
  have NE : Hid (fb ≠ sb ∧ rb ≠ fb ∧ ab ≠ sb ∧ ab ≠ fb ∧ ab ≠ rb ∧ w.heap.size ≤ fb ∧ w.heap.size ≤ ab ∧ w.heap.size ≤ rb ∧ w0.heap.size ≤ w.heap.size) := by
    have n1 := hsb.out
    have n2 := hrw.out
    have n3 := hfw.out
    have n4 := B6'.out.size
    have n5 := R7.out.lt
    have n6 := F0.out.lt
    have n7 := HS0.out
    have n8 := R5'.out.lt
    refine ⟨?_, ?_, ?_, ?_, ?_, ?_, ?_, ?_, ?_⟩ <;> omega
  clear q KA S7 B7 R7 F0 hw8 hfw hab hrw B6' R5' HS0
  have L8 : Hid (Lp w0 w8 sb fb p m c f 43 3 (.slice none 0 0) 0 (flat 0 3 (adC fun _ => ⟨0, 0, 0⟩)) w8) := ⟨S8.out, Two.refl _ _ _, World.ownsRow_nil _ _ _ _, Nat.lt_of_lt_of_le hsb.out B8.out.size, F8.out.lt, NE.out.1, Nat.le_trans NE.out.2.2.2.2.2.2.2.2 NE.out.2.2.2.2.2.1⟩
  have S0 : Hid (IA 0 (fun _ => ⟨0, 0, 0⟩) (-1) ∧ Lp w0 w8 sb fb p m c f 43 3 (.slice none 0 0) 0 (flat 0 3 (adC fun _ => ⟨0, 0, 0⟩)) w8 ∧ Blk w8 fb 26 [.int .i64 x1, .int .i64 x2, .int .i64 x3, .int .i64 x4, .int .i64 x5, .slice none 0 0, .slice none 0 0, .slice none 0 0]) := ⟨IA.zero _, L8.out, F8.out⟩
  go_wp2
  go_loopg [5, 6] 5 (fun gh vat vi wr => ∃ (i n : Nat) (lim : Int) (va : Value) (av : Nat → Ad), vat = .int .i32 lim ∧ vi = .int .i64 (i : Int) ∧ i ≤ 4 ∧ 4 - i < gh ∧ n ≤ i ∧ (-1 ≤ lim ∧ lim ≤ 1114111) ∧ Hid (IA n av lim ∧ Lp w0 w8 sb fb p m c f 43 3 va n (flat n 3 (adC av)) wr ∧ Blk wr fb 26 [.int .i64 x1, .int .i64 x2, .int .i64 x3, .int .i64 x4, .int .i64 x5, va, .slice none 0 0, .slice none 0 0]))
  case atStart => exact ⟨0, 0, -1, _, _, by go_num, by go_num, by omega, by omega, by omega, by omega, S0⟩
  case round =>
    clear S0
    obtain ⟨wo, rfl⟩ : ∃ wo : World, wo = wr := ⟨_, rfl⟩
    obtain ⟨i, n, lim, va, av, rfl, rfl, hi, hg, hni, hlim, S⟩ := hrel
    by_cases hlt : i < 4
    · have hltz : (i : Int) < 4 := by omega
      have KN := hide (N_any w0 wo sb m c p f 89 S.out.2.1.sr (by decide) (by decide))
      go_wp2_with fail
      refine KN.out.mono ?_
      rintro e w9 ⟨x, rfl, hx, q, SS⟩
      obtain ⟨k, rfl⟩ : ∃ k : Nat, x = (k : Int) := ⟨x.toNat, by omega⟩
      have hk : k < 89 := by omega
      obtain ⟨hx1, hx2⟩ := hx
      have T9 : Hid (IA n av lim ∧ Lp w0 w8 sb fb p m c f 43 3 va n (flat n 3 (adC av)) w9 ∧ Blk w9 fb 26 [.int .i64 x1, .int .i64 x2, .int .i64 x3, .int .i64 x4, .int .i64 x5, va, .slice none 0 0, .slice none 0 0]) := ⟨S.out.1, S.out.2.1.but q SS, S.out.2.1.blk_but S.out.2.2 q⟩
      have A9 := A8.out.same (T9.out.2.1.fr.block ab A8.out.lt NE.out.2.2.1 NE.out.2.2.2.1)
      have ck := A9.cell hk
      obtain ⟨r1, r2⟩ := al_bd k
      clear q SS S KN A9
      generalize al k = r at *
      by_cases hr : lim < r
      · go_wp2_with fail
        have KN := hide (N_any w0 w9 sb m c p f 3 T9.out.2.1.sr (by decide) (by decide))
        refine KN.out.mono ?_
        rintro e w10 ⟨y, rfl, ⟨hy1, hy2⟩, q, SS⟩
        have T10 : Hid (IA n av lim ∧ Lp w0 w8 sb fb p m c f 43 3 va n (flat n 3 (adC av)) w10 ∧ Blk w10 fb 26 [.int .i64 x1, .int .i64 x2, .int .i64 x3, .int .i64 x4, .int .i64 x5, va, .slice none 0 0, .slice none 0 0]) := ⟨T9.out.1, T9.out.2.1.but q SS, T9.out.2.1.blk_but T9.out.2.2 q⟩
        have wy : wrap32 y = y := by unfold wrap32; omega
        have wy2 : IntKind.i32.wrap (r + y) = r + y := by rw [IntKind.wrap_i32]; omega
        have wy3 : wrap32 (r + y) = r + y := by unfold wrap32; omega
        clear q SS T9 KN ck
        go_wp2
        obtain ⟨to, hto⟩ : ∃ to, to = min (r + y) 1114111 := ⟨_, rfl⟩
        rw [← hto]
        have t1 : r ≤ to := by omega
        have t2 : to ≤ 1114111 := by omega
        clear hto wy wy2 wy3 hy1 hy2
        refine MJ.wp_region_chain (fun W => W.cell? ⟨fb, 5, none⟩ = some va) [5, 6, 7, 8, 10] [(54, 5), (55, 6), (56, 7), (57, 8)]
          (StApp (fun v n xs W => Lp w0 w8 sb fb p m c f 43 3 v n xs W) (fun v W => Blk W fb 26 [.int .i64 x1, .int .i64 x2, .int .i64 x3, .int .i64 x4, .int .i64 x5, v, .slice none 0 0, .slice none 0 0]) 43 va n (flat n 3 (adC av)) (fun x => 0 ≤ x ∧ x < 200) (fun x => adV r to x) (fun x => [.int .i32 r, .int .i32 to, .int .i64 x]))
          (by kernel_rfl) (by kernel_rfl) (by simp) ?h0 ?hJ ?_
        case h0 => exact ⟨T10.out.2.1.grew ((Grew.refl _).drew), T10.out.2.2.drew⟩
        case hJ =>
          rintro vals W (hl | hl) hS
          · exact (StApp.fb hl hS).cell 5 rfl
          · exact absurd hl (by rw [show MJ.sinkL _ _ = true by kernel_rfl]; exact Bool.noConfusion)
        repeat (first | (refine MJ.lex_skip rfl (by rfl) ?_) | (refine MJ.lex_calm rfl (by rfl) (fun K hK => ?_); apply Exists.intro; refine ⟨fun W hW => ?_, ?_⟩; (dsimp only at hW; go_simp; exact rfl); go_simp; refine hK _ ?_; clear hK K))
        refine MJ.lex_chain 0 rfl (by kernel_rfl) rfl ?_ ?_
        · rintro vs W ⟨hP, hF⟩
          have KN := hide (N_any w0 W sb m c p f 200 hP.sr (by decide) (by decide))
          have hPP := hide hP
          have hFF := hide hF
          clear hP hF
          simp [go_sem, evS, List.lookup]
          refine KN.out.mono ?_
          rintro e w' ⟨x, rfl, hx, q, SS⟩
          exact ⟨_, rfl, x, hx, rfl, hPP.out.but q SS, hPP.out.blk_but hFF.out q⟩
        repeat (first | (refine MJ.lex_skip rfl (by rfl) ?_) | (refine MJ.lex_calm rfl (by rfl) (fun K hK => ?_); apply Exists.intro; refine ⟨fun W hW => ?_, ?_⟩; (dsimp only at hW; go_simp; exact rfl); go_simp; refine hK _ ?_; clear hK K))
        refine MJ.lex_chain 1 rfl (by kernel_rfl) rfl ?_ ?_
        · rintro vs W ⟨x, hx, e, hP, hF⟩
          replace e : vs 5 = .int .i64 x := e
          have FIN : Hid (StApp (fun v n xs W => Lp w0 w8 sb fb p m c f 43 3 v n xs W) (fun v W => Blk W fb 26 [.int .i64 x1, .int .i64 x2, .int .i64 x3, .int .i64 x4, .int .i64 x5, v, .slice none 0 0, .slice none 0 0]) 43 va n (flat n 3 (adC av)) (fun x => 0 ≤ x ∧ x < 200) (fun x => adV r to x) (fun x => [.int .i32 r, .int .i32 to, .int .i64 x]) (MJ.valsOf [5, 6, 7, 8, 10] vs 1 ++ [adV r to x]) W) := ⟨x, hx, rfl, hP, hF⟩
          simp [go_sem, evS, List.lookup, e]
          exact FIN.out
        repeat (first | (refine MJ.lex_skip rfl (by rfl) ?_) | (refine MJ.lex_calm rfl (by rfl) (fun K hK => ?_); apply Exists.intro; refine ⟨fun W hW => ?_, ?_⟩; (dsimp only at hW; go_simp; exact rfl); go_simp; refine hK _ ?_; clear hK K))
        refine MJ.lex_chain 2 rfl (by kernel_rfl) rfl ?_ ?_
        · rintro vs W ⟨x, hx, e, hP, hF⟩
          replace e : vs 6 = adV r to x := e
          have FIN : Hid (StApp (fun v n xs W => Lp w0 w8 sb fb p m c f 43 3 v n xs W) (fun v W => Blk W fb 26 [.int .i64 x1, .int .i64 x2, .int .i64 x3, .int .i64 x4, .int .i64 x5, v, .slice none 0 0, .slice none 0 0]) 43 va n (flat n 3 (adC av)) (fun x => 0 ≤ x ∧ x < 200) (fun x => adV r to x) (fun x => [.int .i32 r, .int .i32 to, .int .i64 x]) (MJ.valsOf [5, 6, 7, 8, 10] vs 2 ++ [.slice (some ⟨W.heap.size, 0, none⟩) 1 1]) (W.alloc (.cells [.int .i32 r, .int .i32 to, .int .i64 x].toArray 43))) :=
            ⟨x, hx, W.heap.size, rfl, Blk.new rfl, hP.grew ((Grew.refl W).alloc _), hF.alloc _⟩
          simp [go_sem, evS, List.lookup, e]
          exact FIN.out
        repeat (first | (refine MJ.lex_skip rfl (by rfl) ?_) | (refine MJ.lex_calm rfl (by rfl) (fun K hK => ?_); apply Exists.intro; refine ⟨fun W hW => ?_, ?_⟩; (dsimp only at hW; go_simp; exact rfl); go_simp; refine hK _ ?_; clear hK K))
        refine MJ.lex_chain 3 rfl (by kernel_rfl) rfl ?_ ?_
        · rintro vs W ⟨x, hx, g, e, hB, hP, hF⟩
          replace e : vs 7 = .slice (some ⟨g, 0, none⟩) 1 1 := e
          refine does_append W _ _ 22 rfl w8.heap.size 43 ia _ 3 16 Try.underlying22 a1 a2 a3 a4 rfl (by decide) va n _ rfl hP.own ⟨g, 0, none⟩ 1 1 [.int .i32 r, .int .i32 to, .int .i64 x] e (by decide) rfl ?c1 ?c2 ?c3 ?c4 ?c5 ?_
          case c1 =>
            intro j u hj
            rw [addr_add]
            exact hB.cell j hj
          case c2 => intro u hu; simp at hu; rcases hu with rfl | rfl | rfl <;> rfl
          case c3 => unfold maxLen; omega
          case c4 => omega
          case c5 => exact hP.fr.size
          intro v' w' ho hgr hd
          exact ⟨x, hx, hP.appended ho hgr hd, hP.blk_app hF hgr⟩
        repeat (first | (refine MJ.lex_skip rfl (by rfl) ?_) | (refine MJ.lex_calm rfl (by rfl) (fun K hK => ?_); apply Exists.intro; refine ⟨fun W hW => ?_, ?_⟩; (dsimp only at hW; go_simp; exact rfl); go_simp; refine hK _ ?_; clear hK K))
        refine MJ.lex_chain 4 rfl (by kernel_rfl) rfl ?_ ?_
        · rintro vs W ⟨x, hx, hP, hF⟩
          have d5 := hF.cell 5 rfl
          have e5 := hF.free 5
          have FIN : Hid (∀ z, StApp (fun v n xs W => Lp w0 w8 sb fb p m c f 43 3 v n xs W) (fun v W => Blk W fb 26 [.int .i64 x1, .int .i64 x2, .int .i64 x3, .int .i64 x4, .int .i64 x5, v, .slice none 0 0, .slice none 0 0]) 43 va n (flat n 3 (adC av)) (fun x => 0 ≤ x ∧ x < 200) (fun x => adV r to x) (fun x => [.int .i32 r, .int .i32 to, .int .i64 x]) (MJ.valsOf [5, 6, 7, 8, 10] vs 4 ++ [z]) (W.setCell ⟨fb, 5, none⟩ (vs 8))) :=
            fun z => ⟨x, hx, hP.set 5 _, hF.set 5 _⟩
          obtain ⟨q0, cap0, e8⟩ := own_val hP.own
          replace e8 : vs 8 = .slice q0 (n + 1) cap0 := e8
          clear hP hF
          rw [e8] at FIN
          simp [go_sem, evS, List.lookup, d5, e5, e8]
          exact FIN.out _
        refine MJ.lex_nil ?_
        rintro vs w11 ⟨x, hx, hP, hF⟩
        have NX : Hid (IA (n + 1) (upd av n ⟨r, to, x⟩) to ∧ Lp w0 w8 sb fb p m c f 43 3 (vs 8) (n + 1) (flat (n + 1) 3 (adC (upd av n ⟨r, to, x⟩))) w11 ∧ Blk w11 fb 26 [.int .i64 x1, .int .i64 x2, .int .i64 x3, .int .i64 x4, .int .i64 x5, (vs 8), .slice none 0 0, .slice none 0 0]) := by
          refine ⟨T10.out.1.push ⟨r, to, x⟩ hr r1 t1 t2 hx, ?_, hF⟩
          have e : flat (n + 1) 3 (adC (upd av n ⟨r, to, x⟩)) = flat n 3 (adC av) ++ [.int .i32 r, .int .i32 to, .int .i64 x] := by
            rw [flat_succ]
            congr 1
            · exact flat_congr fun i hi j => by
                have : upd av n ⟨r, to, x⟩ i = av i := by simp [upd, Nat.ne_of_lt hi]
                unfold adC; rw [this]
            · simp [upd, adC, List.range_succ]
          rw [e]; exact hP
        clear hP hF T10
        simp only [fillS, List.foldl_cons, List.foldl_nil]
        go_wp2
        trace_state
        go_roundg (4 - i)
        case measure => omega
        case rel => exact ⟨i + 1, n + 1, to, _, _, by go_num, by go_num, by omega, by omega, by omega, by omega, NX⟩
      · have hr' : ¬ lim < r := hr
        go_wp2
        go_roundg (4 - i)
        case measure => omega
        case rel => exact ⟨i + 1, n, lim, va, av, by go_num, by go_num, by omega, by omega, by omega, hlim, T9⟩
    · have hltz : ¬ (i : Int) < 4 := by omega
      obtain ⟨wA, rfl⟩ : ∃ W : World, W = wo := ⟨_, rfl⟩
      have OA : Hid (IA n av lim ∧ wA.ownsRow w8.heap.size 43 3 va n (flat n 3 (adC av))) := ⟨S.out.1, S.out.2.1.own⟩
      have TA := hide S.out.2.1.fr
      have AQ := hide (A8.out.same (S.out.2.1.fr.block ab A8.out.lt NE.out.2.2.1 NE.out.2.2.2.1))
      have hn4 : n ≤ 4 := by omega
      have LQ : Hid (SR w0 wA sb p m c f ∧ sb < wA.heap.size ∧ fb < wA.heap.size ∧ w0.heap.size ≤ fb ∧ Blk wA fb 26 [.int .i64 x1, .int .i64 x2, .int .i64 x3, .int .i64 x4, .int .i64 x5, va, .slice none 0 0, .slice none 0 0]) := ⟨S.out.2.1.sr, Nat.lt_of_lt_of_le S.out.2.1.sb_lt S.out.2.1.fr.size, S.out.2.2.lt, S.out.2.1.lo, S.out.2.2⟩
      clear S hlt hi hg hni
      have L0 : Hid (Lp w0 wA sb fb p m c f 37 3 (.slice none 0 0) 0 (flat 0 3 (knC fun _ => ⟨0, 0, 0⟩)) wA) := ⟨LQ.out.1, Two.refl _ _ _, World.ownsRow_nil _ _ _ _, LQ.out.2.1, LQ.out.2.2.1, NE.out.1, LQ.out.2.2.2.1⟩
      have S0 : Hid (IK 0 (fun _ => ⟨0, 0, 0⟩) (-1) (-1) ∧ Lp w0 wA sb fb p m c f 37 3 (.slice none 0 0) 0 (flat 0 3 (knC (fun _ => ⟨0, 0, 0⟩))) wA ∧ Blk wA fb 26 [.int .i64 x1, .int .i64 x2, .int .i64 x3, .int .i64 x4, .int .i64 x5, va, (.slice none 0 0), .slice none 0 0]) := ⟨IK.zero _, L0.out, LQ.out.2.2.2.2⟩
      clear LQ L0
      go_wp2
      go_loopg [9, 10, 11] 6 (fun gh vx vy vi wr => ∃ (i nk : Nat) (x y : Int) (vk : Value) (kv : Nat → Kn), vx = .int .i32 x ∧ vy = .int .i32 y ∧ vi = .int .i64 (i : Int) ∧ i ≤ 5 ∧ 5 - i < gh ∧ nk ≤ i ∧ Hid (IK nk kv x y ∧ Lp w0 wA sb fb p m c f 37 3 vk nk (flat nk 3 (knC kv)) wr ∧ Blk wr fb 26 [.int .i64 x1, .int .i64 x2, .int .i64 x3, .int .i64 x4, .int .i64 x5, va, vk, .slice none 0 0]))
      case atStart => exact ⟨0, 0, -1, -1, _, _, by go_num, by go_num, by go_num, by omega, by omega, by omega, S0⟩
      case round =>
        clear S0
        obtain ⟨wo, rfl⟩ : ∃ wo : World, wo = wr := ⟨_, rfl⟩
        obtain ⟨i, nk, x, y, vk, kv, rfl, rfl, rfl, hi, hg, hni, S⟩ := hrel
        by_cases hlt : i < 5
        · have hltz : (i : Int) < 5 := by omega
          have AB : Hid (∀ W, Two sb fb wA W → Alp W ab) := fun W t => AQ.out.same (t.block ab AQ.out.lt NE.out.2.2.1 NE.out.2.2.2.1)
          go_wp2
          refine MJ.wp_region_indep (fun W => Lp w0 wA sb fb p m c f 37 3 vk nk (flat nk 3 (knC kv)) W ∧ Blk W fb 26 [.int .i64 x1, .int .i64 x2, .int .i64 x3, .int .i64 x4, .int .i64 x5, va, vk, .slice none 0 0]) (RI ab 12) [2, 3, 4, 7, 8, 9, 10, 11] [(66, 2), (67, 3), (68, 4), (71, 7), (72, 8), (73, 9), (12, 10), (13, 11)] (by kernel_rfl) (by kernel_rfl) (by simp) ?h0 ?_
          case h0 => exact ⟨S.out.2.1.grew ((Grew.refl _).drew), S.out.2.2.drew⟩
          repeat (first | (refine MJ.lex_skip rfl (by rfl) ?_) | (refine MJ.lex_calm rfl (by rfl) (fun K hK => ?_); apply Exists.intro; refine ⟨fun W hW => ?_, ?_⟩; (dsimp only at hW; go_simp; exact rfl); go_simp; refine hK _ ?_; clear hK K))
          refine MJ.lex_indep (by rfl) rfl ?_ ?_
          · rintro vs W ⟨hP, hF⟩ hR
            have KN := hide (N_any w0 W sb m c p f 12 hP.sr (by decide) (by decide))
            have hPP := hide hP
            have hFF := hide hF
            clear hP hF hR
            simp [go_sem, evS, List.lookup]
            refine KN.out.mono ?_
            rintro e w' ⟨z, rfl, hz, q, SS⟩
            exact ⟨_, rfl, ⟨hPP.out.but q SS, hPP.out.blk_but hFF.out q⟩, z.toNat, by omega, by rw [show ((z.toNat : Nat) : Int) = z by omega]⟩
          refine MJ.lex_indep (by rfl) rfl ?_ ?_
          · rintro vs W hI hR
            obtain ⟨k, hk, ek⟩ := hR 2 (by simp) (by kernel_rfl)
            replace ek : vs 2 = .int .i64 (k : Int) := ek
            have z1 : (0 : Int) ≤ (k : Int) := by omega
            have z2 : (k : Int) < 89 := by omega
            have FIN : Hid (RI ab 12 3 (.pointer (some ⟨ab, k, none⟩))) := ⟨k, hk, rfl⟩
            replace hI := hide hI
            clear hR
            simp [go_sem, evS, List.lookup, ek, z1, z2]
            exact ⟨hI.out, FIN.out⟩
          refine MJ.lex_indep (by rfl) rfl ?_ ?_
          · rintro vs W hI hR
            obtain ⟨k, hk, ek⟩ := hR 3 (by simp) (by kernel_rfl)
            replace ek : vs 3 = .pointer (some ⟨ab, k, none⟩) := ek
            have ck := (AB.out W hI.1.fr).cell (k := k) (by omega)
            have FIN : Hid (RI ab 12 4 (.int .i32 (al k))) := ⟨k, hk, rfl⟩
            replace hI := hide hI
            clear hR
            simp [go_sem, evS, List.lookup, ek, ck]
            exact ⟨hI.out, FIN.out⟩
          repeat (first | (refine MJ.lex_skip rfl (by rfl) ?_) | (refine MJ.lex_calm rfl (by rfl) (fun K hK => ?_); apply Exists.intro; refine ⟨fun W hW => ?_, ?_⟩; (dsimp only at hW; go_simp; exact rfl); go_simp; refine hK _ ?_; clear hK K))
          refine MJ.lex_indep (by rfl) rfl ?_ ?_
          · rintro vs W ⟨hP, hF⟩ hR
            have KN := hide (N_any w0 W sb m c p f 12 hP.sr (by decide) (by decide))
            have hPP := hide hP
            have hFF := hide hF
            clear hP hF hR
            simp [go_sem, evS, List.lookup]
            refine KN.out.mono ?_
            rintro e w' ⟨z, rfl, hz, q, SS⟩
            exact ⟨_, rfl, ⟨hPP.out.but q SS, hPP.out.blk_but hFF.out q⟩, z.toNat, by omega, by rw [show ((z.toNat : Nat) : Int) = z by omega]⟩
          repeat (first | (refine MJ.lex_skip rfl (by rfl) ?_) | (refine MJ.lex_calm rfl (by rfl) (fun K hK => ?_); apply Exists.intro; refine ⟨fun W hW => ?_, ?_⟩; (dsimp only at hW; go_simp; exact rfl); go_simp; refine hK _ ?_; clear hK K))
          refine MJ.lex_indep (by rfl) rfl ?_ ?_
          · rintro vs W hI hR
            obtain ⟨k, hk, ek⟩ := hR 7 (by simp) (by kernel_rfl)
            replace ek : vs 7 = .int .i64 (k : Int) := ek
            have z1 : (0 : Int) ≤ (k : Int) := by omega
            have z2 : (k : Int) < 89 := by omega
            have FIN : Hid (RI ab 12 8 (.pointer (some ⟨ab, k, none⟩))) := ⟨k, hk, rfl⟩
            replace hI := hide hI
            clear hR
            simp [go_sem, evS, List.lookup, ek, z1, z2]
            exact ⟨hI.out, FIN.out⟩
          refine MJ.lex_indep (by rfl) rfl ?_ ?_
          · rintro vs W hI hR
            obtain ⟨k, hk, ek⟩ := hR 8 (by simp) (by kernel_rfl)
            replace ek : vs 8 = .pointer (some ⟨ab, k, none⟩) := ek
            have ck := (AB.out W hI.1.fr).cell (k := k) (by omega)
            have FIN : Hid (RI ab 12 9 (.int .i32 (al k))) := ⟨k, hk, rfl⟩
            replace hI := hide hI
            clear hR
            simp [go_sem, evS, List.lookup, ek, ck]
            exact ⟨hI.out, FIN.out⟩
          refine MJ.lex_indep (by rfl) rfl ?_ ?_
          · rintro vs W hI hR
            obtain ⟨k, hk, ek⟩ := hR 4 (by simp) (by kernel_rfl)
            replace ek : vs 4 = .int .i32 (al k) := ek
            have FIN : Hid (RI ab 12 10 (.int .i32 (al k))) := ⟨k, hk, rfl⟩
            replace hI := hide hI
            clear hR
            simp [go_sem, evS, List.lookup, ek]
            exact ⟨hI.out, FIN.out⟩
          refine MJ.lex_indep (by rfl) rfl ?_ ?_
          · rintro vs W hI hR
            obtain ⟨k, hk, ek⟩ := hR 9 (by simp) (by kernel_rfl)
            replace ek : vs 9 = .int .i32 (al k) := ek
            have FIN : Hid (RI ab 12 11 (.int .i32 (al k))) := ⟨k, hk, rfl⟩
            replace hI := hide hI
            clear hR
            simp [go_sem, evS, List.lookup, ek]
            exact ⟨hI.out, FIN.out⟩
          refine MJ.lex_nil ?_
          rintro vs w9 hI hR
          obtain ⟨ka, _, ea⟩ := hR 10 (by simp)
          obtain ⟨kb, _, eb⟩ := hR 11 (by simp)
          replace ea : vs 10 = .int .i32 (al ka) := ea
          replace eb : vs 11 = .int .i32 (al kb) := eb
          have T9 : Hid (IK nk kv x y ∧ Lp w0 wA sb fb p m c f 37 3 vk nk (flat nk 3 (knC kv)) w9 ∧ Blk w9 fb 26 [.int .i64 x1, .int .i64 x2, .int .i64 x3, .int .i64 x4, .int .i64 x5, va, vk, .slice none 0 0]) := ⟨S.out.1, hI.1, hI.2⟩
          obtain ⟨r1, r2⟩ := al_bd ka
          obtain ⟨s1, s2⟩ := al_bd kb
          simp only [fillS, List.foldl_cons, List.foldl_nil, ea, eb]
          clear hI hR S ea eb
          generalize al ka = r at *
          generalize al kb = s at *
          by_cases h1 : x < r
          · skip
            go_wp2
            refine MJ.wp_region_chain (fun W => W.cell? ⟨fb, 6, none⟩ = some vk) [5, 6, 7, 8, 10] [(92, 5), (93, 6), (94, 7), (95, 8)]
              (StApp (fun v n xs W => Lp w0 wA sb fb p m c f 37 3 v n xs W) (fun v W => Blk W fb 26 [.int .i64 x1, .int .i64 x2, .int .i64 x3, .int .i64 x4, .int .i64 x5, va, v, .slice none 0 0]) 37 vk nk (flat nk 3 (knC kv)) (fun x => -60 ≤ x ∧ x ≤ 60) (fun x => knV r s x) (fun x => [.int .i32 r, .int .i32 s, .int .i64 x]))
              (by kernel_rfl) (by kernel_rfl) (by simp) ?h0 ?hJ ?_
            case h0 => exact ⟨T9.out.2.1.grew ((Grew.refl _).drew), T9.out.2.2.drew⟩
            case hJ =>
              rintro vals W (hl | hl) hS
              · exact (StApp.fb hl hS).cell 6 rfl
              · exact absurd hl (by rw [show MJ.sinkL _ _ = true by kernel_rfl]; exact Bool.noConfusion)
            repeat (first | (refine MJ.lex_skip rfl (by rfl) ?_) | (refine MJ.lex_calm rfl (by rfl) (fun K hK => ?_); apply Exists.intro; refine ⟨fun W hW => ?_, ?_⟩; (dsimp only at hW; go_simp; exact rfl); go_simp; refine hK _ ?_; clear hK K))
            refine MJ.lex_chain 0 rfl (by kernel_rfl) rfl ?_ ?_
            · rintro vs W ⟨hP, hF⟩
              have KN := hide (Range_any w0 W sb m c p f (-60) 60 hP.sr (by decide) (by decide) (by decide))
              have hPP := hide hP
              have hFF := hide hF
              clear hP hF
              simp [go_sem, evS, List.lookup]
              refine KN.out.mono ?_
              rintro e w' ⟨x, rfl, hx, q, SS⟩
              exact ⟨_, rfl, x, hx, rfl, hPP.out.but q SS, hPP.out.blk_but hFF.out q⟩
            repeat (first | (refine MJ.lex_skip rfl (by rfl) ?_) | (refine MJ.lex_calm rfl (by rfl) (fun K hK => ?_); apply Exists.intro; refine ⟨fun W hW => ?_, ?_⟩; (dsimp only at hW; go_simp; exact rfl); go_simp; refine hK _ ?_; clear hK K))
            refine MJ.lex_chain 1 rfl (by kernel_rfl) rfl ?_ ?_
            · rintro vs W ⟨x, hx, e, hP, hF⟩
              replace e : vs 5 = .int .i64 x := e
              have FIN : Hid ((StApp (fun v n xs W => Lp w0 wA sb fb p m c f 37 3 v n xs W) (fun v W => Blk W fb 26 [.int .i64 x1, .int .i64 x2, .int .i64 x3, .int .i64 x4, .int .i64 x5, va, v, .slice none 0 0]) 37 vk nk (flat nk 3 (knC kv)) (fun x => -60 ≤ x ∧ x ≤ 60) (fun x => knV r s x) (fun x => [.int .i32 r, .int .i32 s, .int .i64 x])) (MJ.valsOf [5, 6, 7, 8, 10] vs 1 ++ [knV r s x]) W) := ⟨x, hx, rfl, hP, hF⟩
              clear hP hF
              simp [go_sem, evS, List.lookup, e]
              exact FIN.out
            repeat (first | (refine MJ.lex_skip rfl (by rfl) ?_) | (refine MJ.lex_calm rfl (by rfl) (fun K hK => ?_); apply Exists.intro; refine ⟨fun W hW => ?_, ?_⟩; (dsimp only at hW; go_simp; exact rfl); go_simp; refine hK _ ?_; clear hK K))
            refine MJ.lex_chain 2 rfl (by kernel_rfl) rfl ?_ ?_
            · rintro vs W ⟨x, hx, e, hP, hF⟩
              replace e : vs 6 = knV r s x := e
              have FIN : Hid ((StApp (fun v n xs W => Lp w0 wA sb fb p m c f 37 3 v n xs W) (fun v W => Blk W fb 26 [.int .i64 x1, .int .i64 x2, .int .i64 x3, .int .i64 x4, .int .i64 x5, va, v, .slice none 0 0]) 37 vk nk (flat nk 3 (knC kv)) (fun x => -60 ≤ x ∧ x ≤ 60) (fun x => knV r s x) (fun x => [.int .i32 r, .int .i32 s, .int .i64 x])) (MJ.valsOf [5, 6, 7, 8, 10] vs 2 ++ [.slice (some ⟨W.heap.size, 0, none⟩) 1 1]) (W.alloc (.cells [.int .i32 r, .int .i32 s, .int .i64 x].toArray 37))) :=
                ⟨x, hx, W.heap.size, rfl, Blk.new rfl, hP.grew ((Grew.refl W).alloc _), hF.alloc _⟩
              clear hP hF
              simp [go_sem, evS, List.lookup, e]
              exact FIN.out
            repeat (first | (refine MJ.lex_skip rfl (by rfl) ?_) | (refine MJ.lex_calm rfl (by rfl) (fun K hK => ?_); apply Exists.intro; refine ⟨fun W hW => ?_, ?_⟩; (dsimp only at hW; go_simp; exact rfl); go_simp; refine hK _ ?_; clear hK K))
            refine MJ.lex_chain 3 rfl (by kernel_rfl) rfl ?_ ?_
            · rintro vs W ⟨x, hx, g, e, hB, hP, hF⟩
              replace e : vs 7 = .slice (some ⟨g, 0, none⟩) 1 1 := e
              refine does_append W _ _ 23 rfl wA.heap.size 37 ik _ 3 16 Try.underlying23 k1 k2 k3 k4 rfl (by decide) vk nk _ rfl hP.own ⟨g, 0, none⟩ 1 1 [.int .i32 r, .int .i32 s, .int .i64 x] e (by decide) rfl ?c1 ?c2 ?c3 ?c4 ?c5 ?_
              case c1 =>
                intro j u hj
                rw [addr_add]
                exact hB.cell j hj
              case c2 => intro u hu; simp at hu; rcases hu with rfl | rfl | rfl <;> rfl
              case c3 => unfold maxLen; omega
              case c4 => omega
              case c5 => exact hP.fr.size
              intro v' w' ho hgr hd
              exact ⟨x, hx, hP.appended ho hgr hd, hP.blk_app hF hgr⟩
            repeat (first | (refine MJ.lex_skip rfl (by rfl) ?_) | (refine MJ.lex_calm rfl (by rfl) (fun K hK => ?_); apply Exists.intro; refine ⟨fun W hW => ?_, ?_⟩; (dsimp only at hW; go_simp; exact rfl); go_simp; refine hK _ ?_; clear hK K))
            refine MJ.lex_chain 4 rfl (by kernel_rfl) rfl ?_ ?_
            · rintro vs W ⟨x, hx, hP, hF⟩
              have d5 := hF.cell 6 rfl
              have e5 := hF.free 6
              have FIN : Hid (∀ z, (StApp (fun v n xs W => Lp w0 wA sb fb p m c f 37 3 v n xs W) (fun v W => Blk W fb 26 [.int .i64 x1, .int .i64 x2, .int .i64 x3, .int .i64 x4, .int .i64 x5, va, v, .slice none 0 0]) 37 vk nk (flat nk 3 (knC kv)) (fun x => -60 ≤ x ∧ x ≤ 60) (fun x => knV r s x) (fun x => [.int .i32 r, .int .i32 s, .int .i64 x])) (MJ.valsOf [5, 6, 7, 8, 10] vs 4 ++ [z]) (W.setCell ⟨fb, 6, none⟩ (vs 8))) :=
                fun z => ⟨x, hx, hP.set 6 _, hF.set 6 _⟩
              obtain ⟨q0, cap0, e8⟩ := own_val hP.own
              replace e8 : vs 8 = .slice q0 (nk + 1) cap0 := e8
              clear hP hF
              rw [e8] at FIN
              simp [go_sem, evS, List.lookup, d5, e5, e8]
              exact FIN.out _
            refine MJ.lex_nil ?_
            rintro vs w11 ⟨z, hx, hP, hF⟩
            have NX : Hid (IK (nk + 1) (upd kv nk ⟨r, s, z⟩) r s ∧ Lp w0 wA sb fb p m c f 37 3 (vs 8) (nk + 1) (flat (nk + 1) 3 (knC (upd kv nk ⟨r, s, z⟩))) w11 ∧ Blk w11 fb 26 [.int .i64 x1, .int .i64 x2, .int .i64 x3, .int .i64 x4, .int .i64 x5, va, (vs 8), .slice none 0 0]) := by
              refine ⟨T9.out.1.push ⟨r, s, z⟩ (Or.inl h1) ⟨r1, r2⟩ ⟨s1, s2⟩ hx, ?_, hF⟩
              have e : flat (nk + 1) 3 (knC (upd kv nk ⟨r, s, z⟩)) = flat nk 3 (knC kv) ++ [.int .i32 r, .int .i32 s, .int .i64 z] := by
                rw [flat_succ]
                congr 1
                · exact flat_congr fun i hi j => by
                    have : upd kv nk ⟨r, s, z⟩ i = kv i := by simp [upd, Nat.ne_of_lt hi]
                    unfold knC; rw [this]
                · simp [upd, knC, List.range_succ]
              rw [e]; exact hP
            clear hP hF T9
            simp only [fillS, List.foldl_cons, List.foldl_nil]
            go_wp2
            go_roundg (5 - i)
            case measure => omega
            case rel => exact ⟨i + 1, nk + 1, r, s, _, _, by go_num, by go_num, by go_num, by omega, by omega, by omega, NX⟩
          by_cases h2 : r = x
          · subst h2
            by_cases h3 : y < s
            · skip
              go_wp2
              refine MJ.wp_region_chain (fun W => W.cell? ⟨fb, 6, none⟩ = some vk) [5, 6, 7, 8, 10] [(92, 5), (93, 6), (94, 7), (95, 8)]
                (StApp (fun v n xs W => Lp w0 wA sb fb p m c f 37 3 v n xs W) (fun v W => Blk W fb 26 [.int .i64 x1, .int .i64 x2, .int .i64 x3, .int .i64 x4, .int .i64 x5, va, v, .slice none 0 0]) 37 vk nk (flat nk 3 (knC kv)) (fun x => -60 ≤ x ∧ x ≤ 60) (fun x => knV r s x) (fun x => [.int .i32 r, .int .i32 s, .int .i64 x]))
                (by kernel_rfl) (by kernel_rfl) (by simp) ?h0 ?hJ ?_
              case h0 => exact ⟨T9.out.2.1.grew ((Grew.refl _).drew), T9.out.2.2.drew⟩
              case hJ =>
                rintro vals W (hl | hl) hS
                · exact (StApp.fb hl hS).cell 6 rfl
                · exact absurd hl (by rw [show MJ.sinkL _ _ = true by kernel_rfl]; exact Bool.noConfusion)
              repeat (first | (refine MJ.lex_skip rfl (by rfl) ?_) | (refine MJ.lex_calm rfl (by rfl) (fun K hK => ?_); apply Exists.intro; refine ⟨fun W hW => ?_, ?_⟩; (dsimp only at hW; go_simp; exact rfl); go_simp; refine hK _ ?_; clear hK K))
              refine MJ.lex_chain 0 rfl (by kernel_rfl) rfl ?_ ?_
              · rintro vs W ⟨hP, hF⟩
                have KN := hide (Range_any w0 W sb m c p f (-60) 60 hP.sr (by decide) (by decide) (by decide))
                have hPP := hide hP
                have hFF := hide hF
                clear hP hF
                simp [go_sem, evS, List.lookup]
                refine KN.out.mono ?_
                rintro e w' ⟨x, rfl, hx, q, SS⟩
                exact ⟨_, rfl, x, hx, rfl, hPP.out.but q SS, hPP.out.blk_but hFF.out q⟩
              repeat (first | (refine MJ.lex_skip rfl (by rfl) ?_) | (refine MJ.lex_calm rfl (by rfl) (fun K hK => ?_); apply Exists.intro; refine ⟨fun W hW => ?_, ?_⟩; (dsimp only at hW; go_simp; exact rfl); go_simp; refine hK _ ?_; clear hK K))
              refine MJ.lex_chain 1 rfl (by kernel_rfl) rfl ?_ ?_
              · rintro vs W ⟨x, hx, e, hP, hF⟩
                replace e : vs 5 = .int .i64 x := e
                have FIN : Hid ((StApp (fun v n xs W => Lp w0 wA sb fb p m c f 37 3 v n xs W) (fun v W => Blk W fb 26 [.int .i64 x1, .int .i64 x2, .int .i64 x3, .int .i64 x4, .int .i64 x5, va, v, .slice none 0 0]) 37 vk nk (flat nk 3 (knC kv)) (fun x => -60 ≤ x ∧ x ≤ 60) (fun x => knV r s x) (fun x => [.int .i32 r, .int .i32 s, .int .i64 x])) (MJ.valsOf [5, 6, 7, 8, 10] vs 1 ++ [knV r s x]) W) := ⟨x, hx, rfl, hP, hF⟩
                clear hP hF
                simp [go_sem, evS, List.lookup, e]
                exact FIN.out
              repeat (first | (refine MJ.lex_skip rfl (by rfl) ?_) | (refine MJ.lex_calm rfl (by rfl) (fun K hK => ?_); apply Exists.intro; refine ⟨fun W hW => ?_, ?_⟩; (dsimp only at hW; go_simp; exact rfl); go_simp; refine hK _ ?_; clear hK K))
              refine MJ.lex_chain 2 rfl (by kernel_rfl) rfl ?_ ?_
              · rintro vs W ⟨x, hx, e, hP, hF⟩
                replace e : vs 6 = knV r s x := e
                have FIN : Hid ((StApp (fun v n xs W => Lp w0 wA sb fb p m c f 37 3 v n xs W) (fun v W => Blk W fb 26 [.int .i64 x1, .int .i64 x2, .int .i64 x3, .int .i64 x4, .int .i64 x5, va, v, .slice none 0 0]) 37 vk nk (flat nk 3 (knC kv)) (fun x => -60 ≤ x ∧ x ≤ 60) (fun x => knV r s x) (fun x => [.int .i32 r, .int .i32 s, .int .i64 x])) (MJ.valsOf [5, 6, 7, 8, 10] vs 2 ++ [.slice (some ⟨W.heap.size, 0, none⟩) 1 1]) (W.alloc (.cells [.int .i32 r, .int .i32 s, .int .i64 x].toArray 37))) :=
                  ⟨x, hx, W.heap.size, rfl, Blk.new rfl, hP.grew ((Grew.refl W).alloc _), hF.alloc _⟩
                clear hP hF
                simp [go_sem, evS, List.lookup, e]
                exact FIN.out
              repeat (first | (refine MJ.lex_skip rfl (by rfl) ?_) | (refine MJ.lex_calm rfl (by rfl) (fun K hK => ?_); apply Exists.intro; refine ⟨fun W hW => ?_, ?_⟩; (dsimp only at hW; go_simp; exact rfl); go_simp; refine hK _ ?_; clear hK K))
              refine MJ.lex_chain 3 rfl (by kernel_rfl) rfl ?_ ?_
              · rintro vs W ⟨x, hx, g, e, hB, hP, hF⟩
                replace e : vs 7 = .slice (some ⟨g, 0, none⟩) 1 1 := e
                refine does_append W _ _ 23 rfl wA.heap.size 37 ik _ 3 16 Try.underlying23 k1 k2 k3 k4 rfl (by decide) vk nk _ rfl hP.own ⟨g, 0, none⟩ 1 1 [.int .i32 r, .int .i32 s, .int .i64 x] e (by decide) rfl ?c1 ?c2 ?c3 ?c4 ?c5 ?_
                case c1 =>
                  intro j u hj
                  rw [addr_add]
                  exact hB.cell j hj
                case c2 => intro u hu; simp at hu; rcases hu with rfl | rfl | rfl <;> rfl
                case c3 => unfold maxLen; omega
                case c4 => omega
                case c5 => exact hP.fr.size
                intro v' w' ho hgr hd
                exact ⟨x, hx, hP.appended ho hgr hd, hP.blk_app hF hgr⟩
              repeat (first | (refine MJ.lex_skip rfl (by rfl) ?_) | (refine MJ.lex_calm rfl (by rfl) (fun K hK => ?_); apply Exists.intro; refine ⟨fun W hW => ?_, ?_⟩; (dsimp only at hW; go_simp; exact rfl); go_simp; refine hK _ ?_; clear hK K))
              refine MJ.lex_chain 4 rfl (by kernel_rfl) rfl ?_ ?_
              · rintro vs W ⟨x, hx, hP, hF⟩
                have d5 := hF.cell 6 rfl
                have e5 := hF.free 6
                have FIN : Hid (∀ z, (StApp (fun v n xs W => Lp w0 wA sb fb p m c f 37 3 v n xs W) (fun v W => Blk W fb 26 [.int .i64 x1, .int .i64 x2, .int .i64 x3, .int .i64 x4, .int .i64 x5, va, v, .slice none 0 0]) 37 vk nk (flat nk 3 (knC kv)) (fun x => -60 ≤ x ∧ x ≤ 60) (fun x => knV r s x) (fun x => [.int .i32 r, .int .i32 s, .int .i64 x])) (MJ.valsOf [5, 6, 7, 8, 10] vs 4 ++ [z]) (W.setCell ⟨fb, 6, none⟩ (vs 8))) :=
                  fun z => ⟨x, hx, hP.set 6 _, hF.set 6 _⟩
                obtain ⟨q0, cap0, e8⟩ := own_val hP.own
                replace e8 : vs 8 = .slice q0 (nk + 1) cap0 := e8
                clear hP hF
                rw [e8] at FIN
                simp [go_sem, evS, List.lookup, d5, e5, e8]
                exact FIN.out _
              refine MJ.lex_nil ?_
              rintro vs w11 ⟨z, hx, hP, hF⟩
              have NX : Hid (IK (nk + 1) (upd kv nk ⟨r, s, z⟩) r s ∧ Lp w0 wA sb fb p m c f 37 3 (vs 8) (nk + 1) (flat (nk + 1) 3 (knC (upd kv nk ⟨r, s, z⟩))) w11 ∧ Blk w11 fb 26 [.int .i64 x1, .int .i64 x2, .int .i64 x3, .int .i64 x4, .int .i64 x5, va, (vs 8), .slice none 0 0]) := by
                refine ⟨T9.out.1.push ⟨r, s, z⟩ (Or.inr ⟨rfl, h3⟩) ⟨r1, r2⟩ ⟨s1, s2⟩ hx, ?_, hF⟩
                have e : flat (nk + 1) 3 (knC (upd kv nk ⟨r, s, z⟩)) = flat nk 3 (knC kv) ++ [.int .i32 r, .int .i32 s, .int .i64 z] := by
                  rw [flat_succ]
                  congr 1
                  · exact flat_congr fun i hi j => by
                      have : upd kv nk ⟨r, s, z⟩ i = kv i := by simp [upd, Nat.ne_of_lt hi]
                      unfold knC; rw [this]
                  · simp [upd, knC, List.range_succ]
                rw [e]; exact hP
              clear hP hF T9
              simp only [fillS, List.foldl_cons, List.foldl_nil]
              go_wp2
              go_roundg (5 - i)
              case measure => omega
              case rel => exact ⟨i + 1, nk + 1, r, s, _, _, by go_num, by go_num, by go_num, by omega, by omega, by omega, NX⟩
            · skip
              go_wp2
              go_roundg (5 - i)
              case measure => omega
              case rel => exact ⟨i + 1, nk, r, y, _, _, by go_num, by go_num, by go_num, by omega, by omega, by omega, T9⟩
          have h2b : (r == x) = false := by simpa using h2
          go_wp2
          go_roundg (5 - i)
          case measure => omega
          case rel => exact ⟨i + 1, nk, x, y, _, _, by go_num, by go_num, by go_num, by omega, by omega, by omega, T9⟩
        · have hltz : ¬ (i : Int) < 5 := by omega
          obtain ⟨wB, rfl⟩ : ∃ W : World, W = wo := ⟨_, rfl⟩
          have OB : Hid (IK nk kv x y ∧ wB.ownsRow wA.heap.size 37 3 vk nk (flat nk 3 (knC kv))) := ⟨S.out.1, S.out.2.1.own⟩
          have TB := hide S.out.2.1.fr
          have AQ := hide (AQ.out.same (S.out.2.1.fr.block ab AQ.out.lt NE.out.2.2.1 NE.out.2.2.2.1))
          have hn5 : nk ≤ 5 := by omega
          have LQ : Hid (SR w0 wB sb p m c f ∧ sb < wB.heap.size ∧ fb < wB.heap.size ∧ w0.heap.size ≤ fb ∧ Blk wB fb 26 [.int .i64 x1, .int .i64 x2, .int .i64 x3, .int .i64 x4, .int .i64 x5, va, vk, .slice none 0 0]) := ⟨S.out.2.1.sr, Nat.lt_of_lt_of_le S.out.2.1.sb_lt S.out.2.1.fr.size, S.out.2.2.lt, S.out.2.1.lo, S.out.2.2⟩
          clear S hlt hi hg hni
          have L0 : Hid (Lp w0 wB sb fb p m c f 39 4 (.slice none 0 0) 0 (flat 0 4 (lgC fun _ => ⟨0, 0, 0, 0⟩)) wB) := ⟨LQ.out.1, Two.refl _ _ _, World.ownsRow_nil _ _ _ _, LQ.out.2.1, LQ.out.2.2.1, NE.out.1, LQ.out.2.2.2.1⟩
          have S0 : Hid (IL 0 (fun _ => ⟨0, 0, 0, 0⟩) (-1) (-1) ∧ Lp w0 wB sb fb p m c f 39 4 (.slice none 0 0) 0 (flat 0 4 (lgC (fun _ => ⟨0, 0, 0, 0⟩))) wB ∧ Blk wB fb 26 [.int .i64 x1, .int .i64 x2, .int .i64 x3, .int .i64 x4, .int .i64 x5, va, vk, (.slice none 0 0)]) := ⟨IL.zero _, L0.out, LQ.out.2.2.2.2⟩
          clear LQ L0
          go_wp2
          go_loopg [9, 10, 14] 5 (fun gh vx vy vi wr => ∃ (i nl : Nat) (x y : Int) (vl : Value) (lv : Nat → Lg), vx = .int .i32 x ∧ vy = .int .i32 y ∧ vi = .int .i64 (i : Int) ∧ i ≤ 4 ∧ 4 - i < gh ∧ nl ≤ i ∧ Hid (IL nl lv x y ∧ Lp w0 wB sb fb p m c f 39 4 vl nl (flat nl 4 (lgC lv)) wr ∧ Blk wr fb 26 [.int .i64 x1, .int .i64 x2, .int .i64 x3, .int .i64 x4, .int .i64 x5, va, vk, vl]))
          case atStart => exact ⟨0, 0, -1, -1, _, _, by go_num, by go_num, by go_num, by omega, by omega, by omega, S0⟩
          case round =>
            clear S0
            obtain ⟨wo, rfl⟩ : ∃ wo : World, wo = wr := ⟨_, rfl⟩
            obtain ⟨i, nl, x, y, vl, lv, rfl, rfl, rfl, hi, hg, hni, S⟩ := hrel
            by_cases hlt : i < 4
            · have hltz : (i : Int) < 4 := by omega
              have AB : Hid (∀ W, Two sb fb wB W → Alp W ab) := fun W t => AQ.out.same (t.block ab AQ.out.lt NE.out.2.2.1 NE.out.2.2.2.1)
              go_wp2
              refine MJ.wp_region_indep (fun W => Lp w0 wB sb fb p m c f 39 4 vl nl (flat nl 4 (lgC lv)) W ∧ Blk W fb 26 [.int .i64 x1, .int .i64 x2, .int .i64 x3, .int .i64 x4, .int .i64 x5, va, vk, vl]) (RI ab 48) [2, 3, 4, 7, 8, 9, 10, 11] [(105, 2), (106, 3), (107, 4), (110, 7), (111, 8), (112, 9), (15, 10), (16, 11)] (by kernel_rfl) (by kernel_rfl) (by simp) ?h0 ?_
              case h0 => exact ⟨S.out.2.1.grew ((Grew.refl _).drew), S.out.2.2.drew⟩
              repeat (first | (refine MJ.lex_skip rfl (by rfl) ?_) | (refine MJ.lex_calm rfl (by rfl) (fun K hK => ?_); apply Exists.intro; refine ⟨fun W hW => ?_, ?_⟩; (dsimp only at hW; go_simp; exact rfl); go_simp; refine hK _ ?_; clear hK K))
              refine MJ.lex_indep (by rfl) rfl ?_ ?_
              · rintro vs W ⟨hP, hF⟩ hR
                have KN := hide (N_any w0 W sb m c p f 48 hP.sr (by decide) (by decide))
                have hPP := hide hP
                have hFF := hide hF
                clear hP hF hR
                simp [go_sem, evS, List.lookup]
                refine KN.out.mono ?_
                rintro e w' ⟨z, rfl, hz, q, SS⟩
                exact ⟨_, rfl, ⟨hPP.out.but q SS, hPP.out.blk_but hFF.out q⟩, z.toNat, by omega, by rw [show ((z.toNat : Nat) : Int) = z by omega]⟩
              refine MJ.lex_indep (by rfl) rfl ?_ ?_
              · rintro vs W hI hR
                obtain ⟨k, hk, ek⟩ := hR 2 (by simp) (by kernel_rfl)
                replace ek : vs 2 = .int .i64 (k : Int) := ek
                have z1 : (0 : Int) ≤ (k : Int) := by omega
                have z2 : (k : Int) < 89 := by omega
                have FIN : Hid (RI ab 48 3 (.pointer (some ⟨ab, k, none⟩))) := ⟨k, hk, rfl⟩
                replace hI := hide hI
                clear hR
                simp [go_sem, evS, List.lookup, ek, z1, z2]
                exact ⟨hI.out, FIN.out⟩
              refine MJ.lex_indep (by rfl) rfl ?_ ?_
              · rintro vs W hI hR
                obtain ⟨k, hk, ek⟩ := hR 3 (by simp) (by kernel_rfl)
                replace ek : vs 3 = .pointer (some ⟨ab, k, none⟩) := ek
                have ck := (AB.out W hI.1.fr).cell (k := k) (by omega)
                have FIN : Hid (RI ab 48 4 (.int .i32 (al k))) := ⟨k, hk, rfl⟩
                replace hI := hide hI
                clear hR
                simp [go_sem, evS, List.lookup, ek, ck]
                exact ⟨hI.out, FIN.out⟩
              repeat (first | (refine MJ.lex_skip rfl (by rfl) ?_) | (refine MJ.lex_calm rfl (by rfl) (fun K hK => ?_); apply Exists.intro; refine ⟨fun W hW => ?_, ?_⟩; (dsimp only at hW; go_simp; exact rfl); go_simp; refine hK _ ?_; clear hK K))
              refine MJ.lex_indep (by rfl) rfl ?_ ?_
              · rintro vs W ⟨hP, hF⟩ hR
                have KN := hide (N_any w0 W sb m c p f 48 hP.sr (by decide) (by decide))
                have hPP := hide hP
                have hFF := hide hF
                clear hP hF hR
                simp [go_sem, evS, List.lookup]
                refine KN.out.mono ?_
                rintro e w' ⟨z, rfl, hz, q, SS⟩
                exact ⟨_, rfl, ⟨hPP.out.but q SS, hPP.out.blk_but hFF.out q⟩, z.toNat, by omega, by rw [show ((z.toNat : Nat) : Int) = z by omega]⟩
              repeat (first | (refine MJ.lex_skip rfl (by rfl) ?_) | (refine MJ.lex_calm rfl (by rfl) (fun K hK => ?_); apply Exists.intro; refine ⟨fun W hW => ?_, ?_⟩; (dsimp only at hW; go_simp; exact rfl); go_simp; refine hK _ ?_; clear hK K))
              refine MJ.lex_indep (by rfl) rfl ?_ ?_
              · rintro vs W hI hR
                obtain ⟨k, hk, ek⟩ := hR 7 (by simp) (by kernel_rfl)
                replace ek : vs 7 = .int .i64 (k : Int) := ek
                have z1 : (0 : Int) ≤ (k : Int) := by omega
                have z2 : (k : Int) < 89 := by omega
                have FIN : Hid (RI ab 48 8 (.pointer (some ⟨ab, k, none⟩))) := ⟨k, hk, rfl⟩
                replace hI := hide hI
                clear hR
                simp [go_sem, evS, List.lookup, ek, z1, z2]
                exact ⟨hI.out, FIN.out⟩
              refine MJ.lex_indep (by rfl) rfl ?_ ?_
              · rintro vs W hI hR
                obtain ⟨k, hk, ek⟩ := hR 8 (by simp) (by kernel_rfl)
                replace ek : vs 8 = .pointer (some ⟨ab, k, none⟩) := ek
                have ck := (AB.out W hI.1.fr).cell (k := k) (by omega)
                have FIN : Hid (RI ab 48 9 (.int .i32 (al k))) := ⟨k, hk, rfl⟩
                replace hI := hide hI
                clear hR
                simp [go_sem, evS, List.lookup, ek, ck]
                exact ⟨hI.out, FIN.out⟩
              refine MJ.lex_indep (by rfl) rfl ?_ ?_
              · rintro vs W hI hR
                obtain ⟨k, hk, ek⟩ := hR 4 (by simp) (by kernel_rfl)
                replace ek : vs 4 = .int .i32 (al k) := ek
                have FIN : Hid (RI ab 48 10 (.int .i32 (al k))) := ⟨k, hk, rfl⟩
                replace hI := hide hI
                clear hR
                simp [go_sem, evS, List.lookup, ek]
                exact ⟨hI.out, FIN.out⟩
              refine MJ.lex_indep (by rfl) rfl ?_ ?_
              · rintro vs W hI hR
                obtain ⟨k, hk, ek⟩ := hR 9 (by simp) (by kernel_rfl)
                replace ek : vs 9 = .int .i32 (al k) := ek
                have FIN : Hid (RI ab 48 11 (.int .i32 (al k))) := ⟨k, hk, rfl⟩
                replace hI := hide hI
                clear hR
                simp [go_sem, evS, List.lookup, ek]
                exact ⟨hI.out, FIN.out⟩
              refine MJ.lex_nil ?_
              rintro vs w9 hI hR
              obtain ⟨ka, _, ea⟩ := hR 10 (by simp)
              obtain ⟨kb, _, eb⟩ := hR 11 (by simp)
              replace ea : vs 10 = .int .i32 (al ka) := ea
              replace eb : vs 11 = .int .i32 (al kb) := eb
              have T9 : Hid (IL nl lv x y ∧ Lp w0 wB sb fb p m c f 39 4 vl nl (flat nl 4 (lgC lv)) w9 ∧ Blk w9 fb 26 [.int .i64 x1, .int .i64 x2, .int .i64 x3, .int .i64 x4, .int .i64 x5, va, vk, vl]) := ⟨S.out.1, hI.1, hI.2⟩
              obtain ⟨r1, r2⟩ := al_bd ka
              obtain ⟨s1, s2⟩ := al_bd kb
              simp only [fillS, List.foldl_cons, List.foldl_nil, ea, eb]
              clear hI hR S ea eb
              generalize al ka = r at *
              generalize al kb = s at *
              by_cases h1 : x < r
              · skip
                go_wp2
                refine MJ.wp_region_ce (fun W => W.cell? ⟨fb, 7, none⟩ = some vl) [5, 8, 9, 10, 11, 13] [5, 6] [5, 6, 8, 9, 10, 11, 13] [(131, 5), (132, 6), (134, 8), (135, 9), (136, 10), (137, 11)]
                  (StApp2 (fun v n xs W => Lp w0 wB sb fb p m c f 39 4 v n xs W) (fun v W => Blk W fb 26 [.int .i64 x1, .int .i64 x2, .int .i64 x3, .int .i64 x4, .int .i64 x5, va, vk, v]) 39 vl nl (flat nl 4 (lgC lv)) (fun x => 0 ≤ x ∧ x < 9) (fun x => 0 ≤ x ∧ x < 200) (fun x y => lgV r s (1114112 + x) y) (fun x y => [.int .i32 r, .int .i32 s, .int .i64 (1114112 + x), .int .i64 y])) RL
                  (by kernel_rfl) (by kernel_rfl) (by simp) (by kernel_rfl) (Or.inl (by kernel_rfl)) ?h0 ?hJ ?_
                case h0 => exact ⟨T9.out.2.1.grew ((Grew.refl _).drew), T9.out.2.2.drew⟩
                case hJ =>
                  intro vals W hl hS
                  exact (StApp2.fb hl hS).cell 7 rfl
                repeat (first | (refine MJ.lex_skip rfl (by rfl) ?_) | (refine MJ.lex_calm rfl (by rfl) (fun K hK => ?_); apply Exists.intro; refine ⟨fun W hW => ?_, ?_⟩; (dsimp only at hW; go_simp; exact rfl); go_simp; refine hK _ ?_; clear hK K))
                refine MJ.lex_ce 0 rfl (by kernel_rfl) (by rfl) rfl ?_ ?_
                · rintro vs W ⟨hP, hF⟩ _
                  have KN := hide (N_any w0 W sb m c p f 9 hP.sr (by decide) (by decide))
                  have hPP := hide hP
                  have hFF := hide hF
                  clear hP hF
                  have RR : Hid (∀ x : Int, 0 ≤ x ∧ x < 9 → (5 : Nat) ∈ [5, 6] → RL 5 (.int .i64 x)) := fun x hx _ => ⟨x, hx, rfl⟩
                  simp [go_sem, evS, List.lookup]
                  refine KN.out.mono ?_
                  rintro e w' ⟨x, rfl, hx, q, SS⟩
                  exact ⟨_, rfl, ⟨hPP.out.but q SS, hPP.out.blk_but hFF.out q⟩, RR.out x hx (by simp)⟩
                refine MJ.lex_ce_free (by rfl) (by rfl) rfl ?_ ?_
                · rintro vs W hR
                  obtain ⟨x, hx, e⟩ := hR 5 (by simp) (by kernel_rfl)
                  replace e : vs 5 = .int .i64 x := e
                  have wx : IntKind.i64.wrap (1114112 + x) = 1114112 + x := wr (by omega) (by omega)
                  have FIN : Hid (RL 6 (.int .i64 (1114112 + x))) := ⟨x, hx, rfl⟩
                  clear hR
                  simp [go_sem, evS, List.lookup, e, wx]
                  exact FIN.out
                repeat (first | (refine MJ.lex_skip rfl (by rfl) ?_) | (refine MJ.lex_calm rfl (by rfl) (fun K hK => ?_); apply Exists.intro; refine ⟨fun W hW => ?_, ?_⟩; (dsimp only at hW; go_simp; exact rfl); go_simp; refine hK _ ?_; clear hK K))
                refine MJ.lex_ce 1 rfl (by kernel_rfl) (by rfl) rfl ?_ ?_
                · rintro vs W ⟨hP, hF⟩ _
                  have KN := hide (N_any w0 W sb m c p f 200 hP.sr (by decide) (by decide))
                  have hPP := hide hP
                  have hFF := hide hF
                  clear hP hF
                  simp [go_sem, evS, List.lookup]
                  refine KN.out.mono ?_
                  rintro e w' ⟨y, rfl, hy, q, SS⟩
                  exact ⟨_, rfl, y, hy, rfl, hPP.out.but q SS, hPP.out.blk_but hFF.out q⟩
                repeat (first | (refine MJ.lex_skip rfl (by rfl) ?_) | (refine MJ.lex_calm rfl (by rfl) (fun K hK => ?_); apply Exists.intro; refine ⟨fun W hW => ?_, ?_⟩; (dsimp only at hW; go_simp; exact rfl); go_simp; refine hK _ ?_; clear hK K))
                refine MJ.lex_ce 2 rfl (by kernel_rfl) (by rfl) rfl ?_ ?_
                · rintro vs W ⟨y, hy, e2, hP, hF⟩ hR
                  obtain ⟨x, hx, e⟩ := hR 6 (by simp) (by kernel_rfl)
                  replace e : vs 6 = .int .i64 (1114112 + x) := e
                  replace e2 : vs 8 = .int .i64 y := e2
                  have FIN : Hid ((StApp2 (fun v n xs W => Lp w0 wB sb fb p m c f 39 4 v n xs W) (fun v W => Blk W fb 26 [.int .i64 x1, .int .i64 x2, .int .i64 x3, .int .i64 x4, .int .i64 x5, va, vk, v]) 39 vl nl (flat nl 4 (lgC lv)) (fun x => 0 ≤ x ∧ x < 9) (fun x => 0 ≤ x ∧ x < 200) (fun x y => lgV r s (1114112 + x) y) (fun x y => [.int .i32 r, .int .i32 s, .int .i64 (1114112 + x), .int .i64 y])) (MJ.valsOf [5, 8, 9, 10, 11, 13] vs 2 ++ [lgV r s (1114112 + x) y]) W) := ⟨x, y, hx, hy, rfl, hP, hF⟩
                  clear hP hF hR
                  simp [go_sem, evS, List.lookup, e, e2]
                  exact FIN.out
                repeat (first | (refine MJ.lex_skip rfl (by rfl) ?_) | (refine MJ.lex_calm rfl (by rfl) (fun K hK => ?_); apply Exists.intro; refine ⟨fun W hW => ?_, ?_⟩; (dsimp only at hW; go_simp; exact rfl); go_simp; refine hK _ ?_; clear hK K))
                refine MJ.lex_ce 3 rfl (by kernel_rfl) (by rfl) rfl ?_ ?_
                · rintro vs W ⟨x, y, hx, hy, e, hP, hF⟩ _
                  replace e : vs 9 = lgV r s (1114112 + x) y := e
                  have FIN : Hid ((StApp2 (fun v n xs W => Lp w0 wB sb fb p m c f 39 4 v n xs W) (fun v W => Blk W fb 26 [.int .i64 x1, .int .i64 x2, .int .i64 x3, .int .i64 x4, .int .i64 x5, va, vk, v]) 39 vl nl (flat nl 4 (lgC lv)) (fun x => 0 ≤ x ∧ x < 9) (fun x => 0 ≤ x ∧ x < 200) (fun x y => lgV r s (1114112 + x) y) (fun x y => [.int .i32 r, .int .i32 s, .int .i64 (1114112 + x), .int .i64 y])) (MJ.valsOf [5, 8, 9, 10, 11, 13] vs 3 ++ [.slice (some ⟨W.heap.size, 0, none⟩) 1 1]) (W.alloc (.cells [.int .i32 r, .int .i32 s, .int .i64 (1114112 + x), .int .i64 y].toArray 39))) :=
                    ⟨x, y, hx, hy, W.heap.size, rfl, Blk.new rfl, hP.grew ((Grew.refl W).alloc _), hF.alloc _⟩
                  clear hP hF
                  simp [go_sem, evS, List.lookup, e]
                  exact FIN.out
                repeat (first | (refine MJ.lex_skip rfl (by rfl) ?_) | (refine MJ.lex_calm rfl (by rfl) (fun K hK => ?_); apply Exists.intro; refine ⟨fun W hW => ?_, ?_⟩; (dsimp only at hW; go_simp; exact rfl); go_simp; refine hK _ ?_; clear hK K))
                refine MJ.lex_ce 4 rfl (by kernel_rfl) (by rfl) rfl ?_ ?_
                · rintro vs W ⟨x, y, hx, hy, g, e, hB, hP, hF⟩ _
                  replace e : vs 10 = .slice (some ⟨g, 0, none⟩) 1 1 := e
                  refine does_append W _ _ 24 rfl wB.heap.size 39 il _ 4 24 Try.underlying24 l1 l2 l3 l4 rfl (by decide) vl nl _ rfl hP.own ⟨g, 0, none⟩ 1 1 [.int .i32 r, .int .i32 s, .int .i64 (1114112 + x), .int .i64 y] e (by decide) rfl ?c1 ?c2 ?c3 ?c4 ?c5 ?_
                  case c1 =>
                    intro j u hj
                    rw [addr_add]
                    exact hB.cell j hj
                  case c2 => intro u hu; simp at hu; rcases hu with rfl | rfl | rfl | rfl <;> rfl
                  case c3 => unfold maxLen; omega
                  case c4 => omega
                  case c5 => exact hP.fr.size
                  intro v' w' ho hgr hd
                  exact ⟨⟨x, y, hx, hy, hP.appended ho hgr hd, hP.blk_app hF hgr⟩, fun h => absurd h (by decide)⟩
                repeat (first | (refine MJ.lex_skip rfl (by rfl) ?_) | (refine MJ.lex_calm rfl (by rfl) (fun K hK => ?_); apply Exists.intro; refine ⟨fun W hW => ?_, ?_⟩; (dsimp only at hW; go_simp; exact rfl); go_simp; refine hK _ ?_; clear hK K))
                refine MJ.lex_ce 5 rfl (by kernel_rfl) (by rfl) rfl ?_ ?_
                · rintro vs W ⟨x, y, hx, hy, hP, hF⟩ _
                  have d5 := hF.cell 7 rfl
                  have e5 := hF.free 7
                  have FIN : Hid (∀ z, (StApp2 (fun v n xs W => Lp w0 wB sb fb p m c f 39 4 v n xs W) (fun v W => Blk W fb 26 [.int .i64 x1, .int .i64 x2, .int .i64 x3, .int .i64 x4, .int .i64 x5, va, vk, v]) 39 vl nl (flat nl 4 (lgC lv)) (fun x => 0 ≤ x ∧ x < 9) (fun x => 0 ≤ x ∧ x < 200) (fun x y => lgV r s (1114112 + x) y) (fun x y => [.int .i32 r, .int .i32 s, .int .i64 (1114112 + x), .int .i64 y])) (MJ.valsOf [5, 8, 9, 10, 11, 13] vs 5 ++ [z]) (W.setCell ⟨fb, 7, none⟩ (vs 11))) :=
                    fun z => ⟨x, y, hx, hy, hP.set 7 _, hF.set 7 _⟩
                  obtain ⟨q0, cap0, e8⟩ := own_val hP.own
                  replace e8 : vs 11 = .slice q0 (nl + 1) cap0 := e8
                  clear hP hF
                  rw [e8] at FIN
                  simp [go_sem, evS, List.lookup, d5, e5, e8]
                  exact FIN.out _
                refine MJ.lex_nil ?_
                rintro vs w11 ⟨z, z2, hx, hy, hP, hF⟩
                have NX : Hid (IL (nl + 1) (upd lv nl ⟨r, s, 1114112 + z, z2⟩) r s ∧ Lp w0 wB sb fb p m c f 39 4 (vs 11) (nl + 1) (flat (nl + 1) 4 (lgC (upd lv nl ⟨r, s, 1114112 + z, z2⟩))) w11 ∧ Blk w11 fb 26 [.int .i64 x1, .int .i64 x2, .int .i64 x3, .int .i64 x4, .int .i64 x5, va, vk, (vs 11)]) := by
                  refine ⟨T9.out.1.push ⟨r, s, 1114112 + z, z2⟩ (Or.inl h1) ⟨r1, r2⟩ ⟨s1, s2⟩ (by dsimp only; omega) hy, ?_, hF⟩
                  have e : flat (nl + 1) 4 (lgC (upd lv nl ⟨r, s, 1114112 + z, z2⟩)) = flat nl 4 (lgC lv) ++ [.int .i32 r, .int .i32 s, .int .i64 (1114112 + z), .int .i64 z2] := by
                    rw [flat_succ]
                    congr 1
                    · exact flat_congr fun i hi j => by
                        have : upd lv nl ⟨r, s, 1114112 + z, z2⟩ i = lv i := by simp [upd, Nat.ne_of_lt hi]
                        unfold lgC; rw [this]
                    · simp [upd, lgC, List.range_succ]
                  rw [e]; exact hP
                clear hP hF T9
                simp only [fillS, List.foldl_cons, List.foldl_nil]
                go_wp2
                go_roundg (4 - i)
                case measure => omega
                case rel => exact ⟨i + 1, nl + 1, r, s, _, _, by go_num, by go_num, by go_num, by omega, by omega, by omega, NX⟩
              by_cases h2 : r = x
              · subst h2
                by_cases h3 : y < s
                · skip
                  go_wp2
                  refine MJ.wp_region_ce (fun W => W.cell? ⟨fb, 7, none⟩ = some vl) [5, 8, 9, 10, 11, 13] [5, 6] [5, 6, 8, 9, 10, 11, 13] [(131, 5), (132, 6), (134, 8), (135, 9), (136, 10), (137, 11)]
                    (StApp2 (fun v n xs W => Lp w0 wB sb fb p m c f 39 4 v n xs W) (fun v W => Blk W fb 26 [.int .i64 x1, .int .i64 x2, .int .i64 x3, .int .i64 x4, .int .i64 x5, va, vk, v]) 39 vl nl (flat nl 4 (lgC lv)) (fun x => 0 ≤ x ∧ x < 9) (fun x => 0 ≤ x ∧ x < 200) (fun x y => lgV r s (1114112 + x) y) (fun x y => [.int .i32 r, .int .i32 s, .int .i64 (1114112 + x), .int .i64 y])) RL
                    (by kernel_rfl) (by kernel_rfl) (by simp) (by kernel_rfl) (Or.inl (by kernel_rfl)) ?h0 ?hJ ?_
                  case h0 => exact ⟨T9.out.2.1.grew ((Grew.refl _).drew), T9.out.2.2.drew⟩
                  case hJ =>
                    intro vals W hl hS
                    exact (StApp2.fb hl hS).cell 7 rfl
                  repeat (first | (refine MJ.lex_skip rfl (by rfl) ?_) | (refine MJ.lex_calm rfl (by rfl) (fun K hK => ?_); apply Exists.intro; refine ⟨fun W hW => ?_, ?_⟩; (dsimp only at hW; go_simp; exact rfl); go_simp; refine hK _ ?_; clear hK K))
                  refine MJ.lex_ce 0 rfl (by kernel_rfl) (by rfl) rfl ?_ ?_
                  · rintro vs W ⟨hP, hF⟩ _
                    have KN := hide (N_any w0 W sb m c p f 9 hP.sr (by decide) (by decide))
                    have hPP := hide hP
                    have hFF := hide hF
                    clear hP hF
                    have RR : Hid (∀ x : Int, 0 ≤ x ∧ x < 9 → (5 : Nat) ∈ [5, 6] → RL 5 (.int .i64 x)) := fun x hx _ => ⟨x, hx, rfl⟩
                    simp [go_sem, evS, List.lookup]
                    refine KN.out.mono ?_
                    rintro e w' ⟨x, rfl, hx, q, SS⟩
                    exact ⟨_, rfl, ⟨hPP.out.but q SS, hPP.out.blk_but hFF.out q⟩, RR.out x hx (by simp)⟩
                  refine MJ.lex_ce_free (by rfl) (by rfl) rfl ?_ ?_
                  · rintro vs W hR
                    obtain ⟨x, hx, e⟩ := hR 5 (by simp) (by kernel_rfl)
                    replace e : vs 5 = .int .i64 x := e
                    have wx : IntKind.i64.wrap (1114112 + x) = 1114112 + x := wr (by omega) (by omega)
                    have FIN : Hid (RL 6 (.int .i64 (1114112 + x))) := ⟨x, hx, rfl⟩
                    clear hR
                    simp [go_sem, evS, List.lookup, e, wx]
                    exact FIN.out
                  repeat (first | (refine MJ.lex_skip rfl (by rfl) ?_) | (refine MJ.lex_calm rfl (by rfl) (fun K hK => ?_); apply Exists.intro; refine ⟨fun W hW => ?_, ?_⟩; (dsimp only at hW; go_simp; exact rfl); go_simp; refine hK _ ?_; clear hK K))
                  refine MJ.lex_ce 1 rfl (by kernel_rfl) (by rfl) rfl ?_ ?_
                  · rintro vs W ⟨hP, hF⟩ _
                    have KN := hide (N_any w0 W sb m c p f 200 hP.sr (by decide) (by decide))
                    have hPP := hide hP
                    have hFF := hide hF
                    clear hP hF
                    simp [go_sem, evS, List.lookup]
                    refine KN.out.mono ?_
                    rintro e w' ⟨y, rfl, hy, q, SS⟩
                    exact ⟨_, rfl, y, hy, rfl, hPP.out.but q SS, hPP.out.blk_but hFF.out q⟩
                  repeat (first | (refine MJ.lex_skip rfl (by rfl) ?_) | (refine MJ.lex_calm rfl (by rfl) (fun K hK => ?_); apply Exists.intro; refine ⟨fun W hW => ?_, ?_⟩; (dsimp only at hW; go_simp; exact rfl); go_simp; refine hK _ ?_; clear hK K))
                  refine MJ.lex_ce 2 rfl (by kernel_rfl) (by rfl) rfl ?_ ?_
                  · rintro vs W ⟨y, hy, e2, hP, hF⟩ hR
                    obtain ⟨x, hx, e⟩ := hR 6 (by simp) (by kernel_rfl)
                    replace e : vs 6 = .int .i64 (1114112 + x) := e
                    replace e2 : vs 8 = .int .i64 y := e2
                    have FIN : Hid ((StApp2 (fun v n xs W => Lp w0 wB sb fb p m c f 39 4 v n xs W) (fun v W => Blk W fb 26 [.int .i64 x1, .int .i64 x2, .int .i64 x3, .int .i64 x4, .int .i64 x5, va, vk, v]) 39 vl nl (flat nl 4 (lgC lv)) (fun x => 0 ≤ x ∧ x < 9) (fun x => 0 ≤ x ∧ x < 200) (fun x y => lgV r s (1114112 + x) y) (fun x y => [.int .i32 r, .int .i32 s, .int .i64 (1114112 + x), .int .i64 y])) (MJ.valsOf [5, 8, 9, 10, 11, 13] vs 2 ++ [lgV r s (1114112 + x) y]) W) := ⟨x, y, hx, hy, rfl, hP, hF⟩
                    clear hP hF hR
                    simp [go_sem, evS, List.lookup, e, e2]
                    exact FIN.out
                  repeat (first | (refine MJ.lex_skip rfl (by rfl) ?_) | (refine MJ.lex_calm rfl (by rfl) (fun K hK => ?_); apply Exists.intro; refine ⟨fun W hW => ?_, ?_⟩; (dsimp only at hW; go_simp; exact rfl); go_simp; refine hK _ ?_; clear hK K))
                  refine MJ.lex_ce 3 rfl (by kernel_rfl) (by rfl) rfl ?_ ?_
                  · rintro vs W ⟨x, y, hx, hy, e, hP, hF⟩ _
                    replace e : vs 9 = lgV r s (1114112 + x) y := e
                    have FIN : Hid ((StApp2 (fun v n xs W => Lp w0 wB sb fb p m c f 39 4 v n xs W) (fun v W => Blk W fb 26 [.int .i64 x1, .int .i64 x2, .int .i64 x3, .int .i64 x4, .int .i64 x5, va, vk, v]) 39 vl nl (flat nl 4 (lgC lv)) (fun x => 0 ≤ x ∧ x < 9) (fun x => 0 ≤ x ∧ x < 200) (fun x y => lgV r s (1114112 + x) y) (fun x y => [.int .i32 r, .int .i32 s, .int .i64 (1114112 + x), .int .i64 y])) (MJ.valsOf [5, 8, 9, 10, 11, 13] vs 3 ++ [.slice (some ⟨W.heap.size, 0, none⟩) 1 1]) (W.alloc (.cells [.int .i32 r, .int .i32 s, .int .i64 (1114112 + x), .int .i64 y].toArray 39))) :=
                      ⟨x, y, hx, hy, W.heap.size, rfl, Blk.new rfl, hP.grew ((Grew.refl W).alloc _), hF.alloc _⟩
                    clear hP hF
                    simp [go_sem, evS, List.lookup, e]
                    exact FIN.out
                  repeat (first | (refine MJ.lex_skip rfl (by rfl) ?_) | (refine MJ.lex_calm rfl (by rfl) (fun K hK => ?_); apply Exists.intro; refine ⟨fun W hW => ?_, ?_⟩; (dsimp only at hW; go_simp; exact rfl); go_simp; refine hK _ ?_; clear hK K))
                  refine MJ.lex_ce 4 rfl (by kernel_rfl) (by rfl) rfl ?_ ?_
                  · rintro vs W ⟨x, y, hx, hy, g, e, hB, hP, hF⟩ _
                    replace e : vs 10 = .slice (some ⟨g, 0, none⟩) 1 1 := e
                    refine does_append W _ _ 24 rfl wB.heap.size 39 il _ 4 24 Try.underlying24 l1 l2 l3 l4 rfl (by decide) vl nl _ rfl hP.own ⟨g, 0, none⟩ 1 1 [.int .i32 r, .int .i32 s, .int .i64 (1114112 + x), .int .i64 y] e (by decide) rfl ?c1 ?c2 ?c3 ?c4 ?c5 ?_
                    case c1 =>
                      intro j u hj
                      rw [addr_add]
                      exact hB.cell j hj
                    case c2 => intro u hu; simp at hu; rcases hu with rfl | rfl | rfl | rfl <;> rfl
                    case c3 => unfold maxLen; omega
                    case c4 => omega
                    case c5 => exact hP.fr.size
                    intro v' w' ho hgr hd
                    exact ⟨⟨x, y, hx, hy, hP.appended ho hgr hd, hP.blk_app hF hgr⟩, fun h => absurd h (by decide)⟩
                  repeat (first | (refine MJ.lex_skip rfl (by rfl) ?_) | (refine MJ.lex_calm rfl (by rfl) (fun K hK => ?_); apply Exists.intro; refine ⟨fun W hW => ?_, ?_⟩; (dsimp only at hW; go_simp; exact rfl); go_simp; refine hK _ ?_; clear hK K))
                  refine MJ.lex_ce 5 rfl (by kernel_rfl) (by rfl) rfl ?_ ?_
                  · rintro vs W ⟨x, y, hx, hy, hP, hF⟩ _
                    have d5 := hF.cell 7 rfl
                    have e5 := hF.free 7
                    have FIN : Hid (∀ z, (StApp2 (fun v n xs W => Lp w0 wB sb fb p m c f 39 4 v n xs W) (fun v W => Blk W fb 26 [.int .i64 x1, .int .i64 x2, .int .i64 x3, .int .i64 x4, .int .i64 x5, va, vk, v]) 39 vl nl (flat nl 4 (lgC lv)) (fun x => 0 ≤ x ∧ x < 9) (fun x => 0 ≤ x ∧ x < 200) (fun x y => lgV r s (1114112 + x) y) (fun x y => [.int .i32 r, .int .i32 s, .int .i64 (1114112 + x), .int .i64 y])) (MJ.valsOf [5, 8, 9, 10, 11, 13] vs 5 ++ [z]) (W.setCell ⟨fb, 7, none⟩ (vs 11))) :=
                      fun z => ⟨x, y, hx, hy, hP.set 7 _, hF.set 7 _⟩
                    obtain ⟨q0, cap0, e8⟩ := own_val hP.own
                    replace e8 : vs 11 = .slice q0 (nl + 1) cap0 := e8
                    clear hP hF
                    rw [e8] at FIN
                    simp [go_sem, evS, List.lookup, d5, e5, e8]
                    exact FIN.out _
                  refine MJ.lex_nil ?_
                  rintro vs w11 ⟨z, z2, hx, hy, hP, hF⟩
                  have NX : Hid (IL (nl + 1) (upd lv nl ⟨r, s, 1114112 + z, z2⟩) r s ∧ Lp w0 wB sb fb p m c f 39 4 (vs 11) (nl + 1) (flat (nl + 1) 4 (lgC (upd lv nl ⟨r, s, 1114112 + z, z2⟩))) w11 ∧ Blk w11 fb 26 [.int .i64 x1, .int .i64 x2, .int .i64 x3, .int .i64 x4, .int .i64 x5, va, vk, (vs 11)]) := by
                    refine ⟨T9.out.1.push ⟨r, s, 1114112 + z, z2⟩ (Or.inr ⟨rfl, h3⟩) ⟨r1, r2⟩ ⟨s1, s2⟩ (by dsimp only; omega) hy, ?_, hF⟩
                    have e : flat (nl + 1) 4 (lgC (upd lv nl ⟨r, s, 1114112 + z, z2⟩)) = flat nl 4 (lgC lv) ++ [.int .i32 r, .int .i32 s, .int .i64 (1114112 + z), .int .i64 z2] := by
                      rw [flat_succ]
                      congr 1
                      · exact flat_congr fun i hi j => by
                          have : upd lv nl ⟨r, s, 1114112 + z, z2⟩ i = lv i := by simp [upd, Nat.ne_of_lt hi]
                          unfold lgC; rw [this]
                      · simp [upd, lgC, List.range_succ]
                    rw [e]; exact hP
                  clear hP hF T9
                  simp only [fillS, List.foldl_cons, List.foldl_nil]
                  go_wp2
                  go_roundg (4 - i)
                  case measure => omega
                  case rel => exact ⟨i + 1, nl + 1, r, s, _, _, by go_num, by go_num, by go_num, by omega, by omega, by omega, NX⟩
                · skip
                  go_wp2
                  go_roundg (4 - i)
                  case measure => omega
                  case rel => exact ⟨i + 1, nl, r, y, _, _, by go_num, by go_num, by go_num, by omega, by omega, by omega, T9⟩
              have h2b : (r == x) = false := by simpa using h2
              go_wp2
              go_roundg (4 - i)
              case measure => omega
              case rel => exact ⟨i + 1, nl, x, y, _, _, by go_num, by go_num, by go_num, by omega, by omega, by omega, T9⟩
            · have hltz : ¬ (i : Int) < 4 := by omega
              obtain ⟨wC, rfl⟩ : ∃ W : World, W = wo := ⟨_, rfl⟩
              have OC : Hid (IL nl lv x y ∧ wC.ownsRow wB.heap.size 39 4 vl nl (flat nl 4 (lgC lv))) := ⟨S.out.1, S.out.2.1.own⟩
              have TC := hide S.out.2.1.fr
              have SC := hide S.out.2.1.sr
              have T8C := hide ((TA.out.trans TB.out).trans TC.out)
              have RC := hide (R8.out.same (T8C.out.block rb R8.out.lt hrs.out NE.out.2.1))
              have FC := hide S.out.2.2
              have hn6 : nl ≤ 4 := by omega
              clear S hlt hi hg hni
              have f0 := FC.out.cell 0 rfl
              have f1 := FC.out.cell 1 rfl
              have f2 := FC.out.cell 2 rfl
              have f3 := FC.out.cell 3 rfl
              have f4 := FC.out.cell 4 rfl
              have f5 := FC.out.cell 5 rfl
              have f6 := FC.out.cell 6 rfl
              have f7 := FC.out.cell 7 rfl
              have r0 := RC.out.cell 0 rfl
              have r1 := RC.out.cell 1 rfl
              have r2 := RC.out.cell 2 rfl
              have r3 := RC.out.cell 3 rfl
              have r4 := RC.out.cell 4 rfl
              have r5 := RC.out.cell 5 rfl
              have r6 := RC.out.cell 6 rfl
              have r7 := RC.out.cell 7 rfl
              have q0 := RC.out.free 0
              have q1 := RC.out.free 1
              have q2 := RC.out.free 2
              have q3 := RC.out.free 3
              have q4 := RC.out.free 4
              have q5 := RC.out.free 5
              have q6 := RC.out.free 6
              have q7 := RC.out.free 7
              obtain ⟨pa, ca, eva⟩ := own_val OA.out.2
              obtain ⟨pk, ckk, evk⟩ := own_val OB.out.2
              obtain ⟨pl, cl, evl⟩ := own_val OC.out.2
              subst eva evk evl
              have ST := hide (stored8 (v0 := .int .i64 x1) (v1 := .int .i64 x2) (v2 := .int .i64 x3) (v3 := .int .i64 x4) (v4 := .int .i64 x5) (v5 := .slice pa n ca) (v6 := .slice pk nk ckk) (v7 := .slice pl nl cl) RC.out)
              have FE : Hid (∀ W, But rb wC W → Good ⟨x1, x2, x3, x4, x5, n, av, nk, kv, nl, lv⟩ ∧ Own3 w.heap.size ⟨x1, x2, x3, x4, x5, n, av, nk, kv, nl, lv⟩ ⟨pa, ca, pk, ckk, pl, cl⟩ W ∧ SR w0 W sb p m c f ∧ But sb w W) := fun W BW =>
                font_end (F := ⟨x1, x2, x3, x4, x5, n, av, nk, kv, nl, lv⟩) (s := ⟨pa, ca, pk, ckk, pl, cl⟩) ⟨hx1.out, hx2.out, hx3.out, hx4.out, hx5.out, hn4, hn5, hn6, ⟨_, OA.out.1⟩, ⟨_, _, OB.out.1⟩, ⟨_, _, OC.out.1⟩⟩ B8.out TA.out TB.out TC.out OA.out.2 OB.out.2 OC.out.2 SC.out
                  (Nat.lt_of_lt_of_le hsb.out B8.out.size) F8.out.lt R8.out.lt hrs.out NE.out.2.2.2.2.2.1 NE.out.2.2.2.2.2.2.2.1 NE.out.2.2.2.2.2.2.2.2 BW
              clear OA OB OC TA TB TC SC T8C RC FC B8 F8 R8 A8 S8 L8 AQ hx1 hx2 hx3 hx4 hx5 hn4 hn5 hn6 hlim NE hsb hrs a1 a2 a3 a4 k1 k2 k3 k4 l1 l2 l3 l4
              go_wp2
              obtain ⟨g0, g1⟩ := ST.out
              have g1 := hide g1
              clear ST f0 f1 f2 f3 f4 f5 f6 f7 r0 r1 r2 r3 r4 r5 r6 r7 q0 q1 q2 q3 q4 q5 q6 q7
              generalize ((((((((wC.setCell ⟨rb, 0, none⟩ (.int .i64 x1)).setCell ⟨rb, 1, none⟩ (.int .i64 x2)).setCell ⟨rb, 2, none⟩ (.int .i64 x3)).setCell ⟨rb, 3, none⟩ (.int .i64 x4)).setCell ⟨rb, 4, none⟩ (.int .i64 x5)).setCell ⟨rb, 5, none⟩ (.slice pa n ca)).setCell ⟨rb, 6, none⟩ (.slice pk nk ckk)).setCell ⟨rb, 7, none⟩ (.slice pl nl cl)) = W at *
              have f0 := g0.cell 0 rfl
              have f1 := g0.cell 1 rfl
              have f2 := g0.cell 2 rfl
              have f3 := g0.cell 3 rfl
              have f4 := g0.cell 4 rfl
              have f5 := g0.cell 5 rfl
              have f6 := g0.cell 6 rfl
              have f7 := g0.cell 7 rfl
              refine bodyPost_ret (v := (Fn.mk x1 x2 x3 x4 x5 n av nk kv nl lv).v ⟨pa, ca, pk, ckk, pl, cl⟩) (by simp [results, Try.results9, go_sem, f0, f1, f2, f3, f4, f5, f6, f7]) rfl ?_
              exact ⟨_, _, rfl, FE.out W g1.out⟩
end Go.Proofs.Ytfiaongnogiegaa
