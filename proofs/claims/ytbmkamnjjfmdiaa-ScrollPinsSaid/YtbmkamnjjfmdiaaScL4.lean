/- What the law ScrollPins runs, where Pinned (and for the sanity check Clamp, Reveal, Visible) answers as the chapter asks; no other condition. -/
import Derived.Test.YtbmkamnjjfmdiaaScL3
import Derived.Test.YtbmkamnjjfmdiaaFlat
namespace Go.Proofs.Ytbmkamnjjfmdiaa
open Go.RowKit Go.Sort
set_option linter.unusedVariables false
set_option linter.unusedSimpArgs false

theorem info_scS : (Try.prog.info? 43).map (fun i => (i.zero, i.size, i.bytes)) = some (some (.agg #[.int .i64 0, .int .i64 0, .int .i64 0]), 3, 24) := by kernel_rfl
/-- The sections that the law builds. -/
def pnL (s : Nat → Sct) (i : Nat) : Sct := ⟨(s i).tp.tmod 10000, (s i).hd % 64 + (s i).ht % 512, (s i).hd % 64⟩
theorem pn_flat (s : Nat → Sct) (k : Nat) : flat k 3 (scC (pnL s)) ++ [.int .i64 ((s k).tp.tmod 10000), .int .i64 ((s k).hd % 64 + (s k).ht % 512), .int .i64 ((s k).hd % 64)] = flat (k + 1) 3 (scC (pnL s)) := by
  rw [flat_succ]; rfl
theorem pn_ok {n : Nat} {s : Nat → Sct} {o : Int} (hn : n ≤ 50) : npF n (pnL s) (o.tmod 10000) = n := by
  unfold npF
  rw [if_pos]
  unfold piB
  have t := td_lt o 10000 (by decide)
  rw [inR_iff.2 ⟨by omega, by omega⟩, decide_eq_true (show n ≤ 10000 by omega), alF_iff.2]
  · rfl
  intro i hi
  have t := td_lt (s i).tp 10000 (by decide)
  show ((inRB ((s i).tp.tmod 10000) && szRB ((s i).hd % 64 + (s i).ht % 512)) && szRB ((s i).hd % 64)) = true
  rw [inR_iff.2 ⟨by omega, by omega⟩, szR_iff.2 ⟨by omega, by omega⟩, szR_iff.2 ⟨by omega, by omega⟩]
  rfl
theorem pn_cases {o a h d : Int} (hh : d ≤ h) {p : Int} (hp : p = max a (min o (a + h - d))) :
    (o ≤ a ∧ ¬ a ≤ o ∧ p = a ∧ a ≤ a + h - d) ∨ (o = a ∧ p = a ∧ a ≤ a + h - d) ∨ (¬ o ≤ a ∧ a ≤ o ∧ o ≤ a + h - d ∧ p = o) ∨ (¬ o ≤ a ∧ a ≤ o ∧ ¬ o ≤ a + h - d ∧ p = a + h - d ∧ a ≤ a + h - d) := by omega
set_option maxHeartbeats 8000000 in
set_option maxRecDepth 100000 in
theorem spin_core (hC : KCl 14) (hR : KRv 16) (hV : KVi 10) (hP : KPi 12)
    (p : Option Addr) (n c : Nat) (s : Nat → Sct) (offset : Int) (w : World) (hp : SRow w p n 3 (scC s)) :
    Calls Try.prog 9 #[.slice p n c, .int .i64 offset] w fun e w' => e = .returned (.bool true) ∧ Below w.heap.size w w' := by
  by_cases b1 : 50 < n
  · have hz : (50 : Int) < (n : Int) := by omega
    clear hC hR hV hP hp
    go_enter Try.func9, Try.ntmps9
    go_wp2_with fail
    go_ret
    exact ⟨rfl, Below.refl _ _⟩
  have z1 : ¬ (50 : Int) < (n : Int) := by omega
  obtain ⟨it, i1, i2, i3, i4⟩ := info_partsZ info_scS
  have A := hide (fun W => sawake_any hC hR hV W)
  have KP := hide hP
  have HP := hide hp
  have OO : Hid (w.ownsRow w.heap.size 43 3 (.slice none 0 0) 0 (flat 0 3 (scC (pnL s)))) := World.ownsRow_nil _ _ _ _
  have BB : Hid (Below w.heap.size w w) := Below.refl _ _
  clear hC hR hV hP hp
  go_enter Try.func9, Try.ntmps9
  go_wp2_with fail
  go_loopg [5, 6] (n + 1) (fun g1 vv vk wr => ∃ (k : Nat) (v : Value), v = vv ∧ vk = .int .i64 (k : Int) ∧ k ≤ n ∧ n - k < g1 ∧ Hid (wr.ownsRow w.heap.size 43 3 v k (flat k 3 (scC (pnL s)))) ∧ Hid (Below w.heap.size w wr))
  case atStart => exact ⟨0, _, rfl, by go_num, by omega, by omega, OO, BB⟩
  case round =>
    clear OO BB
    obtain ⟨wo, rfl⟩ : ∃ wo : World, wo = wr := ⟨_, rfl⟩
    obtain ⟨k, va, rfl, rfl, hk, hg, OO, BB⟩ := hrel
    by_cases hlt : k < n
    case pos =>
      have hltz : (k : Int) < (n : Int) := by omega
      have hk0 : (0 : Int) ≤ (k : Int) := by omega
      obtain ⟨lb, off, rfl, hlb, hc⟩ := (HP.out.below BB.out) (by omega)
      have y0 : wo.cell? ⟨lb, off + k * 3, none⟩ = some (.int .i64 (s k).tp) := hc k hlt 0 (by decide)
      have y1 : wo.cell? ⟨lb, off + k * 3 + 1, none⟩ = some (.int .i64 (s k).ht) := hc k hlt 1 (by decide)
      have y2 : wo.cell? ⟨lb, off + k * 3 + 2, none⟩ = some (.int .i64 (s k).hd) := hc k hlt 2 (by decide)
      have EV : Hid (flat k 3 (scC (pnL s)) ++ [.int .i64 ((s k).tp.tmod 10000), .int .i64 ((s k).hd % 64 + (s k).ht % 512), .int .i64 ((s k).hd % 64)] = flat (k + 1) 3 (scC (pnL s))) := pn_flat s k
      have JQ : Hid (∀ W', W'.ownsRow w.heap.size 43 3 va k (flat k 3 (scC (pnL s))) → Below w.heap.size w W' → W'.cell? ⟨lb, off + k * 3, none⟩ = some (.int .i64 (s k).tp) ∧ W'.cell? ⟨lb, off + k * 3 + 1, none⟩ = some (.int .i64 (s k).ht)) := fun W' ho hB => by
        obtain ⟨b3, o3, e, _, hc3⟩ := (HP.out.below hB) (by omega)
        injection e with e
        injection e with e4 e5
        subst e4 e5
        exact ⟨hc3 k hlt 0 (by decide), hc3 k hlt 1 (by decide)⟩
      clear hc hlb A KP
      generalize (s k).tp = tp at *
      generalize (s k).ht = ht at *
      generalize (s k).hd = hd at *
      have wt : IntKind.i64.wrap (hd % 64 + ht % 512) = hd % 64 + ht % 512 := wr (by omega) (by omega)
      generalize hxs : flat k 3 (scC (pnL s)) = xs at *
      go_wp2_with fail
      refine MJ.wp_region_mixed (fun W' => W'.cell? ⟨lb, off + k * 3, none⟩ = some (.int .i64 tp) ∧ W'.cell? ⟨lb, off + k * 3 + 1, none⟩ = some (.int .i64 ht)) [17, 18, 19] [(43, 17), (44, 18), (5, 19)] (A1M w w.heap.size 43 3 va k xs [.int .i64 (tp.tmod 10000), .int .i64 (hd % 64 + ht % 512), .int .i64 (hd % 64)] 17 18 19) (by kernel_rfl) (by kernel_rfl) (by simp) ?h0 (fun D D' vs vs' W hD h => h.ext hD) ?hold ?_
      case h0 => exact fun vs => A1M.start ⟨BB.out.os, BB.out.tape, BB.out.output, BB.out.size, BB.out.block⟩ OO.out
      case hold =>
        intro D vs W i hM hi hB hD hcl
        have hk : D 18 = false := hold_of (by decide +kernel) (by simpa using hi) hB hD hcl
        exact JQ.out W (hM.h0 hk) hM.bl
      repeat (refine MJ.lex_calm rfl (by rfl) (fun K hK => ?_); apply Exists.intro; refine ⟨fun W' hW => ?_, ?_⟩; (dsimp only at hW; go_simp; exact rfl); go_simp; refine hK _ ?_; clear hK K)
      refine MJ.lex_made (by rfl) rfl ?_ ?_
      · rintro D vs W hM hD hcl hdep
        have fb := off_of (hcl 18 17 (by decide +kernel)) hD
        have fc := off_of (hcl 19 18 (by decide +kernel)) fb
        have FIN := hide (hM.opA (by decide) (by decide) fb fc)
        clear hM
        simp [go_sem, evS, List.lookup]
        exact FIN.out
      repeat (refine MJ.lex_calm rfl (by rfl) (fun K hK => ?_); apply Exists.intro; refine ⟨fun W' hW => ?_, ?_⟩; (dsimp only at hW; go_simp; exact rfl); go_simp; refine hK _ ?_; clear hK K)
      refine MJ.lex_made (by rfl) rfl ?_ ?_
      · rintro D vs W hM hD hcl hdep
        have fa := hdep 17 (by decide +kernel)
        have fc := off_of (hcl 19 18 (by decide +kernel)) hD
        obtain ⟨g, e, hb⟩ := hM.ha fa hD
        have hO := hM.h0 hD
        refine does_append_any W _ _ 23 rfl w.heap.size 43 it _ 3 24 Try.underlying23 i1 i2 i3 i4 rfl (by decide) va k xs rfl hO ⟨g, 0, none⟩ 1 1 [.int .i64 (tp.tmod 10000), .int .i64 (hd % 64 + ht % 512), .int .i64 (hd % 64)] e rfl ?c1 ?c2 ?c3 ?c4 hM.bl.size ?_
        case c1 =>
          intro j u hj
          rw [addr_add]
          exact hb.cell j hj
        case c2 => intro u hu; simp at hu; rcases hu with rfl | rfl | rfl <;> rfl
        case c3 => unfold maxLen; omega
        case c4 => omega
        intro v' w' ho hgr
        exact hM.opB (by decide) hD fc (Nat.le_refl _) ho hgr
      repeat (refine MJ.lex_calm rfl (by rfl) (fun K hK => ?_); apply Exists.intro; refine ⟨fun W' hW => ?_, ?_⟩; (dsimp only at hW; go_simp; exact rfl); go_simp; refine hK _ ?_; clear hK K)
      refine MJ.lex_made (by rfl) rfl ?_ ?_
      · rintro D vs W hM hD hcl hdep
        have FIN := hide (hM.opC (by decide) (by decide) (hdep 18 (by decide +kernel)))
        clear hM
        simp [go_sem, evS, List.lookup]
        exact FIN.out
      refine MJ.lex_nil ?_
      rintro us w6 hM
      have ⟨e1, hO6, hB6⟩ := hM.at_end
      have O6 := hide hO6
      have B6 := hide hB6
      clear hM hO6 hB6 JQ BB OO
      simp only [fillS, List.foldl_cons, List.foldl_nil, e1]
      generalize us 18 = v6 at *
      clear e1
      have O7 : Hid (w6.ownsRow w.heap.size 43 3 v6 (k + 1) (flat (k + 1) 3 (scC (pnL s)))) := by
        show World.ownsRow _ _ _ _ _ _ _
        rw [← EV.out]; exact O6.out
      clear O6 EV
      go_wp2_with fail
      go_roundg (n - k)
      case measure => exact hg
      case rel => exact ⟨k + 1, v6, rfl, by go_num, by omega, by omega, O7, B6⟩
    have hltz : ¬ (k : Int) < (n : Int) := by omega
    obtain rfl : n = k := by omega
    obtain ⟨q, cv, rfl, hcv, hq⟩ := own_srow OO.out
    have K1 := hide (KP.out q n cv (pnL s) (offset.tmod 10000) wo hq hcv (by omega))
    rw [pn_ok (by omega)] at K1
    have S1 := hide hq
    clear OO HP KP hq
    go_wp2_with fail
    refine K1.out.mono ?_
    rintro e w1 ⟨q2, d2, rfl, hr, hB⟩
    have B1 := hide (BB.out.trans (hB.mono BB.out.size))
    have S2 := hide (S1.out.below hB)
    have R2 := hide hr
    clear K1 hB hr S1 BB
    go_wp2_with fail
    go_loopg [9] (n + 1) (fun g1 vk wr => ∃ i : Nat, vk = .int .i64 (i : Int) ∧ i ≤ n ∧ n - i < g1 ∧ Hid (Below w.heap.size w wr) ∧ Hid (SRow wr q n 3 (scC (pnL s))) ∧ Hid (Reads wr q2 n (piF (pnL s) (offset.tmod 10000))))
    case atStart => exact ⟨0, by go_num, by omega, by omega, B1, S2, R2⟩
    case round =>
      clear B1 S2 R2
      obtain ⟨wp, rfl⟩ : ∃ wp : World, wp = wr := ⟨_, rfl⟩
      obtain ⟨i, rfl, hi, hg, B, S, R⟩ := hrel
      by_cases hlt : i < n
      · have hltz : (i : Int) < (n : Int) := by omega
        obtain ⟨b1, o1, rfl, hb1, hc1⟩ := S.out (by omega)
        obtain ⟨b2, o2, rfl, hc2⟩ := R.out (by omega)
        have y0 : wp.cell? ⟨b1, o1 + i * 3, none⟩ = some (.int .i64 (pnL s i).tp) := hc1 i hlt 0 (by decide)
        have y1 : wp.cell? ⟨b1, o1 + i * 3 + 1, none⟩ = some (.int .i64 (pnL s i).ht) := hc1 i hlt 1 (by decide)
        have y2 : wp.cell? ⟨b1, o1 + i * 3 + 2, none⟩ = some (.int .i64 (pnL s i).hd) := hc1 i hlt 2 (by decide)
        have y3 : wp.cell? ⟨b2, o2 + i, none⟩ = some (.int .i64 (piF (pnL s) (offset.tmod 10000) i)) := hc2 i hlt
        have yp : piF (pnL s) (offset.tmod 10000) i = max (pnL s i).tp (min (offset.tmod 10000) ((pnL s i).tp + (pnL s i).ht - (pnL s i).hd)) := rfl
        have t1 := td_lt (s i).tp 10000 (by decide)
        have u1 : -10000 < (pnL s i).tp ∧ (pnL s i).tp < 10000 := ⟨t1.2, t1.1⟩
        have u2 : 0 ≤ (pnL s i).hd ∧ (pnL s i).hd ≤ (pnL s i).ht ∧ (pnL s i).ht < 1000 := by unfold pnL; dsimp only; omega
        have NB : Hid (∀ m, Below w.heap.size w (wp.drewN m)) := fun m => ⟨B.out.os, B.out.tape, B.out.output, B.out.size, B.out.block⟩
        have NS : Hid (∀ m, SRow (wp.drewN m) (some ⟨b1, o1, none⟩) n 3 (scC (pnL s))) := fun m => S.out
        have NR : Hid (∀ m, Reads (wp.drewN m) (some ⟨b2, o2, none⟩) n (piF (pnL s) (offset.tmod 10000))) := fun m => R.out
        clear hb1 hc1 hc2 A S R B t1
        generalize hpf : piF (pnL s) (offset.tmod 10000) = pf at *
        replace hpf := hide hpf
        generalize pf i = pv at *
        generalize (pnL s i).tp = a at *
        generalize (pnL s i).ht = h at *
        generalize (pnL s i).hd = d at *
        generalize hox : offset.tmod 10000 = ox at *
        replace hox := hide hox
        have wa : IntKind.i64.wrap (a + h) = a + h := wr (by omega) (by omega)
        have M := pn_cases (o := ox) (a := a) (h := h) (d := d) u2.2.1 yp
        have f1 : ¬ pv < a := by omega
        have f2 : ¬ a + h - d < pv := by omega
        obtain ⟨en, hen⟩ : ∃ en, en = a + h - d := ⟨_, rfl⟩
        have wb : IntKind.i64.wrap (a + h - d) = en := by rw [hen]; exact wr (by omega) (by omega)
        rw [← hen] at M f2
        clear yp hen u1 u2
        have hi0 : (0 : Int) ≤ (i : Int) := by omega
        have D1 := decide_eq_false f1
        have D2 := decide_eq_false f2
        rcases M with ⟨m1, m2, m3, m4⟩ | ⟨m1, m2, m3⟩ | ⟨m1, m2, m3, m4⟩ | ⟨m1, m2, m3, m4, m5⟩
        · replace m3 := m3.symm
          subst m3
          have E1 : decide (a ≤ ox) = false := decide_eq_false m2
          have E2 : decide (ox ≤ a) = true := decide_eq_true m1
          go_wp2_with fail
          go_quiet (fail)
          have y0 : (wp.drewN nq).cell? _ = _ := y0
          have y1 : (wp.drewN nq).cell? _ = _ := y1
          have y2 : (wp.drewN nq).cell? _ = _ := y2
          have y3 : (wp.drewN nq).cell? _ = _ := y3
          have NB2 : Hid (Below w.heap.size w (wp.drewN nq)) := NB.out nq
          have NS2 : Hid (SRow (wp.drewN nq) (some ⟨b1, o1, none⟩) n 3 (scC (pnL s))) := NS.out nq
          have NR2 : Hid (Reads (wp.drewN nq) (some ⟨b2, o2, none⟩) n pf) := NR.out nq
          clear NB NS NR
          generalize wp.drewN nq = w5 at *
          have g0 : ∀ (m : Nat) (os : Array Obj), (grow (w5.drewN m) os).cell? ⟨b1, o1 + i * 3, none⟩ = _ := fun m os => cell_grown (World.block_lt_of_cell? _ _ y0) y0 m os
          have g3 : ∀ (m : Nat) (os : Array Obj), (grow (w5.drewN m) os).cell? ⟨b2, o2 + i, none⟩ = _ := fun m os => cell_grown (World.block_lt_of_cell? _ _ y3) y3 m os
          clear y0 y1 y2 y3
          go_wp2_with fail
          refine wp_region_calm (by kernel_rfl) (by kernel_rfl) ?_
          iterate 48 ((with_reducible refine lex_calm ?_ ?_ ?_); exact rfl; kernel_rfl; intro K hK; go_simp; refine hK _ ?_; clear hK K)
          iterate 3 ((with_reducible refine lex_skip ?_ ?_ ?_); exact rfl; kernel_rfl)
          iterate 2 ((with_reducible refine lex_calm ?_ ?_ ?_); exact rfl; kernel_rfl; intro K hK; go_simp; refine hK _ ?_; clear hK K)
          iterate 6 ((with_reducible refine lex_skip ?_ ?_ ?_); exact rfl; kernel_rfl)
          iterate 2 ((with_reducible refine lex_calm ?_ ?_ ?_); exact rfl; kernel_rfl; intro K hK; go_simp; refine hK _ ?_; clear hK K)
          refine lex_nil ?_
          intro w9 G9
          have B9 : Hid (Below w.heap.size w w9) := NB2.out.trans (G9.1.mono NB2.out.size)
          have S9 := hide (NS2.out.below G9.1)
          have R9 := hide (NR2.out.below G9.1)
          clear g0 g3 NB2 NS2 NR2 G9
          go_wp2_with fail
          go_roundg (n - i)
          case measure => exact (by omega)
          case rel => exact ⟨i + 1, by go_num, by omega, by omega, B9, S9, R9⟩
        · subst m1
          replace m2 := m2.symm
          subst m2
          go_wp2_with fail
          go_quiet (fail)
          have y0 : (wp.drewN nq).cell? _ = _ := y0
          have y1 : (wp.drewN nq).cell? _ = _ := y1
          have y2 : (wp.drewN nq).cell? _ = _ := y2
          have y3 : (wp.drewN nq).cell? _ = _ := y3
          have NB2 : Hid (Below w.heap.size w (wp.drewN nq)) := NB.out nq
          have NS2 : Hid (SRow (wp.drewN nq) (some ⟨b1, o1, none⟩) n 3 (scC (pnL s))) := NS.out nq
          have NR2 : Hid (Reads (wp.drewN nq) (some ⟨b2, o2, none⟩) n pf) := NR.out nq
          clear NB NS NR
          generalize wp.drewN nq = w5 at *
          have g0 : ∀ (m : Nat) (os : Array Obj), (grow (w5.drewN m) os).cell? ⟨b1, o1 + i * 3, none⟩ = _ := fun m os => cell_grown (World.block_lt_of_cell? _ _ y0) y0 m os
          have g3 : ∀ (m : Nat) (os : Array Obj), (grow (w5.drewN m) os).cell? ⟨b2, o2 + i, none⟩ = _ := fun m os => cell_grown (World.block_lt_of_cell? _ _ y3) y3 m os
          clear y0 y1 y2 y3
          go_wp2_with fail
          refine wp_region_calm (by kernel_rfl) (by kernel_rfl) ?_
          iterate 61 ((with_reducible refine lex_calm ?_ ?_ ?_); exact rfl; kernel_rfl; intro K hK; go_simp; refine hK _ ?_; clear hK K)
          refine lex_nil ?_
          intro w9 G9
          have B9 : Hid (Below w.heap.size w w9) := NB2.out.trans (G9.1.mono NB2.out.size)
          have S9 := hide (NS2.out.below G9.1)
          have R9 := hide (NR2.out.below G9.1)
          clear g0 g3 NB2 NS2 NR2 G9
          go_wp2_with fail
          go_roundg (n - i)
          case measure => exact (by omega)
          case rel => exact ⟨i + 1, by go_num, by omega, by omega, B9, S9, R9⟩
        · replace m4 := m4.symm
          subst m4
          have E1 : decide (ox ≤ a) = false := decide_eq_false m1
          have E2 : decide (a ≤ ox) = true := decide_eq_true m2
          have E3 : decide (ox ≤ en) = true := decide_eq_true m3
          go_wp2_with fail
          go_quiet (fail)
          have y0 : (wp.drewN nq).cell? _ = _ := y0
          have y1 : (wp.drewN nq).cell? _ = _ := y1
          have y2 : (wp.drewN nq).cell? _ = _ := y2
          have y3 : (wp.drewN nq).cell? _ = _ := y3
          have NB2 : Hid (Below w.heap.size w (wp.drewN nq)) := NB.out nq
          have NS2 : Hid (SRow (wp.drewN nq) (some ⟨b1, o1, none⟩) n 3 (scC (pnL s))) := NS.out nq
          have NR2 : Hid (Reads (wp.drewN nq) (some ⟨b2, o2, none⟩) n pf) := NR.out nq
          clear NB NS NR
          generalize wp.drewN nq = w5 at *
          have g0 : ∀ (m : Nat) (os : Array Obj), (grow (w5.drewN m) os).cell? ⟨b1, o1 + i * 3, none⟩ = _ := fun m os => cell_grown (World.block_lt_of_cell? _ _ y0) y0 m os
          have g3 : ∀ (m : Nat) (os : Array Obj), (grow (w5.drewN m) os).cell? ⟨b2, o2 + i, none⟩ = _ := fun m os => cell_grown (World.block_lt_of_cell? _ _ y3) y3 m os
          clear y0 y1 y2 y3
          go_wp2_with fail
          refine wp_region_calm (by kernel_rfl) (by kernel_rfl) ?_
          iterate 27 ((with_reducible refine lex_calm ?_ ?_ ?_); exact rfl; kernel_rfl; intro K hK; go_simp; refine hK _ ?_; clear hK K)
          iterate 10 ((with_reducible refine lex_skip ?_ ?_ ?_); exact rfl; kernel_rfl)
          iterate 24 ((with_reducible refine lex_calm ?_ ?_ ?_); exact rfl; kernel_rfl; intro K hK; go_simp; refine hK _ ?_; clear hK K)
          refine lex_nil ?_
          intro w9 G9
          have B9 : Hid (Below w.heap.size w w9) := NB2.out.trans (G9.1.mono NB2.out.size)
          have S9 := hide (NS2.out.below G9.1)
          have R9 := hide (NR2.out.below G9.1)
          clear g0 g3 NB2 NS2 NR2 G9
          go_wp2_with fail
          go_roundg (n - i)
          case measure => exact (by omega)
          case rel => exact ⟨i + 1, by go_num, by omega, by omega, B9, S9, R9⟩
        · replace m4 := m4.symm
          subst m4
          have E1 : decide (ox ≤ a) = false := decide_eq_false m1
          have E2 : decide (a ≤ ox) = true := decide_eq_true m2
          have E3 : decide (ox ≤ en) = false := decide_eq_false m3
          go_wp2_with fail
          go_quiet (fail)
          have y0 : (wp.drewN nq).cell? _ = _ := y0
          have y1 : (wp.drewN nq).cell? _ = _ := y1
          have y2 : (wp.drewN nq).cell? _ = _ := y2
          have y3 : (wp.drewN nq).cell? _ = _ := y3
          have NB2 : Hid (Below w.heap.size w (wp.drewN nq)) := NB.out nq
          have NS2 : Hid (SRow (wp.drewN nq) (some ⟨b1, o1, none⟩) n 3 (scC (pnL s))) := NS.out nq
          have NR2 : Hid (Reads (wp.drewN nq) (some ⟨b2, o2, none⟩) n pf) := NR.out nq
          clear NB NS NR
          generalize wp.drewN nq = w5 at *
          have g0 : ∀ (m : Nat) (os : Array Obj), (grow (w5.drewN m) os).cell? ⟨b1, o1 + i * 3, none⟩ = _ := fun m os => cell_grown (World.block_lt_of_cell? _ _ y0) y0 m os
          have g3 : ∀ (m : Nat) (os : Array Obj), (grow (w5.drewN m) os).cell? ⟨b2, o2 + i, none⟩ = _ := fun m os => cell_grown (World.block_lt_of_cell? _ _ y3) y3 m os
          clear y0 y1 y2 y3
          go_wp2_with fail
          refine wp_region_calm (by kernel_rfl) (by kernel_rfl) ?_
          iterate 27 ((with_reducible refine lex_calm ?_ ?_ ?_); exact rfl; kernel_rfl; intro K hK; go_simp; refine hK _ ?_; clear hK K)
          iterate 10 ((with_reducible refine lex_skip ?_ ?_ ?_); exact rfl; kernel_rfl)
          iterate 16 ((with_reducible refine lex_calm ?_ ?_ ?_); exact rfl; kernel_rfl; intro K hK; go_simp; refine hK _ ?_; clear hK K)
          iterate 6 ((with_reducible refine lex_skip ?_ ?_ ?_); exact rfl; kernel_rfl)
          iterate 2 ((with_reducible refine lex_calm ?_ ?_ ?_); exact rfl; kernel_rfl; intro K hK; go_simp; refine hK _ ?_; clear hK K)
          refine lex_nil ?_
          intro w9 G9
          have B9 : Hid (Below w.heap.size w w9) := NB2.out.trans (G9.1.mono NB2.out.size)
          have S9 := hide (NS2.out.below G9.1)
          have R9 := hide (NR2.out.below G9.1)
          clear g0 g3 NB2 NS2 NR2 G9
          go_wp2_with fail
          go_roundg (n - i)
          case measure => exact (by omega)
          case rel => exact ⟨i + 1, by go_num, by omega, by omega, B9, S9, R9⟩
      · have hltz : ¬ (i : Int) < (n : Int) := by omega
        clear S R
        have A := hide (A.out wp)
        go_wp2_with fail
        refine A.out.mono ?_
        rintro e w4 ⟨rfl, h⟩
        have B5 := hide (B.out.trans (h.mono B.out.size))
        clear h B A
        go_wp2_with fail
        go_ret
        exact ⟨rfl, B5.out⟩
end Go.Proofs.Ytbmkamnjjfmdiaa
