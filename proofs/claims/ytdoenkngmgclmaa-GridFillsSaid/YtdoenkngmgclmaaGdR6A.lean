/- Tracks of the reference of package grid: no space is free; all numbers in range. -/
import Derived.Test.YtdoenkngmgclmaaGdR5
namespace Go.Proofs.Ytdoenkngmgclmaa
open Go.RowKit Go.Sort
set_option linter.unusedVariables false
set_option linter.unusedSimpArgs false

set_option maxHeartbeats 40000000 in
set_option maxRecDepth 100000 in
theorem trk_A (av gap : Int) (p q : Option Addr) (n m c d : Nat) (t : Nat → Tk) (I : Nat → It) (w : World) (hp : SRow w p n 2 (trC t)) (hq : SRow w q m 4 (itC I)) (hn : n ≤ 24) (hm : m ≤ 100) (ho : allOk av gap n t m I) (hF : av - totG gap (lqF t gap I n m) n ≤ 0) :
    Calls Try.prog 24 #[.int .i64 av, .int .i64 gap, .slice p n c, .slice q m d] w fun e w' => ∃ r u, e = .returned (.tuple #[.slice r n u, .int .i64 0]) ∧ Reads w' r n (trF av t gap I n m) ∧ Below w.heap.size w w' := by
  have ho0 : allOk 0 gap n t m I := ⟨by omega, ho.2⟩
  have er0 : erG av gap n t m I = 0 := by unfold erG; rw [if_neg (by omega), if_pos ho]
  have C := hide (rchk_any av gap p q n m c d t I w hp hq (by omega) (by omega))
  rw [er0] at C
  have HP := hide hp
  have DM := fun (W : World) (hB : Below w.heap.size w W) => hide (rdem_any gap p q n m c d t I W (hp.below hB) (hq.below hB) hn hm ho.2.1 ho.2.2.1 ho.2.2.2)
  have TT := fun (W : World) (b : Nat) (hr : IRow W b n (lqF t gap I n m)) => hide (rtot_any gap (some ⟨b, 0, none⟩) n n (lqF t gap I n m) W hr.reads hn ho.2.1 (lq_bd hm ho0))
  have TB := tot_bd hn ho.2.1 (lq_bd hm ho0)
  have LQ := hide (lq_bd hm ho0)
  have MQ := hide (mq_bd hm ho0)
  have WA := hide (fun i hi => wa_bd (i := i) hm ho0 hi)
  have WE : Hid (∀ i, waG t gap I n m i = mqF t gap I n m i - lqF t gap I n m i) := fun i => rfl
  have GW : Hid (Good (pack (zA t) (waG t gap I n m) n) (rk (zA t) n)) := fun k hk => pack_all (p := fun v => 0 ≤ v ∧ v ≤ 2147483648) (fun i hi _ => by have := wa_bd hm ho0 hi; omega) hk
  have PWB : Hid (∀ k, k < rk (zA t) n → 0 ≤ pack (zA t) (waG t gap I n m) n k ∧ pack (zA t) (waG t gap I n m) n k ≤ 134217728) := fun k hk => pack_all (p := fun v => 0 ≤ v ∧ v ≤ 134217728) (fun i hi _ => wa_bd hm ho0 hi) hk
  have ZA : Hid (∀ i, zA t i = !decide ((t i).kd = 1)) := fun i => rfl
  have ZF : Hid (∀ i, zF t i = !decide ((t i).kd = 2)) := fun i => rfl
  have FX := hide (fun k hk => fx_ok (k := k) hm ho0 hk)
  have FXE : Hid (∀ i, fxG t gap I n m i = ⟨0, min (lqF t gap I n m i) 1048576, 1048576, (t i).nn, 0⟩) := fun i => rfl
  have HG := hide ho.2.1
  have HAV := hide ho.1
  have TRE : Hid (∀ i, trF av t gap I n m i = if zF t i then s1G av t gap I n m i else resF (max 0 (reJ av gap (zF t) (s1G av t gap I n m) n)) 0 (fun k => fxG t gap I n m (selN (zF t) n k)) (rk (zF t) n) (rk (zF t) i)) := fun i => rfl
  have S1E : Hid (∀ i, s1G av t gap I n m i = lqF t gap I n m i) := fun i => by unfold s1G; rw [if_neg (fun h => absurd h.1 (by omega))]
  have S1B : Hid (∀ i, i < n → 0 ≤ s1G av t gap I n m i ∧ s1G av t gap I n m i ≤ 536870912) := fun i hi => by rw [S1E.out i]; have := LQ.out i hi; omega
  have RB : Hid (∀ i, i ≤ n → -17179869184 ≤ reJ av gap (zF t) (s1G av t gap I n m) i ∧ reJ av gap (zF t) (s1G av t gap I n m) i ≤ 1048576) := fun i hi => reJ_bd ho.1 ho.2.1 (by omega) (fun j hj => S1B.out j (by omega))
  obtain ⟨F, hFe⟩ : ∃ F, F = av - totG gap (lqF t gap I n m) n := ⟨_, rfl⟩
  rw [← hFe] at hF
  have FB : -4294967296 ≤ F ∧ F ≤ 1048576 := by have := ho.1; omega
  have wf : IntKind.i64.wrap (av - totG gap (lqF t gap I n m) n) = F := by rw [← hFe]; exact wr (by omega) (by omega)
  clear hp hq er0 ho ho0 TB hFe
  generalize totG gap (lqF t gap I n m) n = TG at *
  generalize s1G av t gap I n m = s1 at *
  generalize waG t gap I n m = wa at *
  generalize lqF t gap I n m = lq at *
  generalize mqF t gap I n m = mq at *
  generalize trF av t gap I n m = tr at *
  generalize fxG t gap I n m = fx at *
  generalize zA t = za at *
  generalize zF t = zf at *
  go_enter Try.func24, Try.ntmps24
  go_wp2_with fail
  refine C.out.mono ?_
  rintro e w1 ⟨rfl, hB⟩
  have D1 := DM w1 hB
  have B1 := hide hB
  clear DM hB C
  go_wp2_with fail
  refine D1.out.mono ?_
  rintro e w2 ⟨lb, mb, rfl, hR⟩
  have R2 := hide hR
  have B2 : Hid (Below w.heap.size w w2) := B1.out.trans (hR.below.mono B1.out.size)
  clear D1 hR B1
  obtain ⟨i0, hi0, hz0, hz1, hz2⟩ := info_parts info_int
  have ON : w2.ownsRow w2.heap.size 3 1 (.slice none 0 0) 0 [] := World.ownsRow_nil _ _ _ _
  have hn1 := vals_cellsG (w := w2) (b := lb) (m := n) (P := lq) (fun j hj => R2.out.l.cell hj)
  have hn2 := vals_len n lq
  go_wp2_with (at_builtin; refine wpList_append_own _ rfl _ _ 22 rfl w2.heap.size 3 i0 (.int .i64 0) 1 8 Try.underlying22 hi0 hz0 hz1 hz2 rfl (by decide) _ _ _ rfl ON ⟨lb, 0, none⟩ n n (vals n lq) rfl ?c0 ?c1 ?c2 ?c3 ?c4 ?c5 ?_)
  case c0 => rw [hn2]; omega
  case c1 => exact hn1
  case c2 => exact vals_oneG
  case c3 => unfold maxLen; omega
  case c4 => omega
  case c5 => exact Nat.le_refl _
  intro vS wA hownS hgrowS hnilS
  have BA : Hid (Below w2.heap.size w2 wA) := below_appended (Below.refl _ _) hgrowS (own_lt ON)
  have OS : wA.ownsRow w2.heap.size 3 1 vS n (vals n lq) := by simpa using hownS
  obtain ⟨ps, sb, cs, hvS, hsbB, HSZ⟩ := own_sz OS
  subst hvS
  have HS0 := hide HSZ
  have RA : Hid (IRow wA lb n lq ∧ IRow wA mb n mq) := ⟨R2.out.l.below BA.out R2.out.l.lt, R2.out.m.below BA.out R2.out.m.lt⟩
  have BW : Hid (Below w.heap.size w wA) := B2.out.trans (BA.out.mono B2.out.size)
  have T2 := TT w2 lb R2.out.l
  have TA := TT wA lb RA.out.1
  have NL : Hid (lb ≠ sb ∧ mb ≠ sb ∧ w.heap.size ≤ sb) := by
    show _ ∧ _ ∧ _
    have a := R2.out.l.lt
    have b := R2.out.m.lt
    have c := B2.out.size
    omega
  clear hownS hgrowS hnilS OS ON hn1 hn2 HSZ BA R2 B2 TT T2
  go_wp2_with fail
  refine TA.out.mono ?_
  rintro e w' ⟨rfl, hw'⟩
  subst w'
  clear TA
  go_wp2_with fail
  clear wf
  have SBL : Hid (0 < n → sb < wA.heap.size) := fun h => (HS0.out h).2.lt
  have O1 : Hid (wA.ownsRow wA.heap.size 3 1 (.slice none 0 0) (rk za 0) (vals (rk za 0) (pack za wa 0))) := World.ownsRow_nil _ _ _ _
  have JR : Hid (∀ W' i, i < n → Below wA.heap.size wA W' → W'.cell? ⟨lb, i, none⟩ = some (.int .i64 (lq i)) ∧ W'.cell? ⟨mb, i, none⟩ = some (.int .i64 (mq i))) := fun W' i hi h => ⟨(RA.out.1.below h RA.out.1.lt).cell hi, (RA.out.2.below h RA.out.2.lt).cell hi⟩
  go_loopg [15, 16] (n + 1) (fun g1 vw vi wr => ∃ (i : Nat) (v : Value), v = vw ∧ vi = .int .i64 (i : Int) ∧ i ≤ n ∧ n - i < g1 ∧ Hid (Below wA.heap.size wA wr) ∧ Hid (wr.ownsRow wA.heap.size 3 1 v (rk za i) (vals (rk za i) (pack za wa i))))
  case atStart => exact ⟨0, _, rfl, by go_num, by omega, by omega, Below.refl _ _, O1⟩
  case round =>
    clear O1
    obtain ⟨wo, rfl⟩ : ∃ wo : World, wo = wr := ⟨_, rfl⟩
    obtain ⟨i, v, rfl, rfl, hi, hgg, BB, OO⟩ := hrel
    by_cases hlt : i < n
    · have hltz : (i : Int) < (n : Int) := by omega
      obtain ⟨b, off, rfl, hb, hc⟩ := (HP.out.below (BW.out.trans (BB.out.mono BW.out.size))) (by omega)
      have c0 : wo.cell? ⟨b, off + i * 2, none⟩ = some (.int .i64 (t i).kd) := hc i hlt 0 (by decide)
      have zi := ZA.out i
      have er : rk za (i + 1) = rk za i + (if za i then 0 else 1) := rfl
      have ep : pack za wa (i + 1) = fun k => if za i then pack za wa i k else if k = rk za i then wa i else pack za wa i k := rfl
      clear hc hb
      generalize (t i).kd = tk at *
      by_cases htk : tk = 1
      · have d1 : (tk == 1) = true := by simpa using htk
        rw [decide_eq_true htk] at zi
        have zi' : za i = false := by rw [zi]; rfl
        have er2 : rk za (i + 1) = rk za i + 1 := by rw [er, zi']; rfl
        have ev : vals (rk za (i + 1)) (pack za wa (i + 1)) = vals (rk za i) (pack za wa i) ++ [.int .i64 (mq i - lq i)] := by
          rw [er2, vals_succ, ep]
          simp only [zi', Bool.false_eq_true, if_false, if_true, WE.out]
          congr 1
          exact vals_congr fun k hk => by rw [if_neg (by omega)]
        have EV : Hid (rk za (i + 1) = rk za i + 1 ∧ vals (rk za (i + 1)) (pack za wa (i + 1)) = vals (rk za i) (pack za wa i) ++ [.int .i64 (mq i - lq i)]) := ⟨er2, ev⟩
        have rb := rk_le za i
        obtain ⟨l1, l2⟩ := LQ.out i hlt
        obtain ⟨m1, m2⟩ := MQ.out i hlt
        have wml : IntKind.i64.wrap (mq i - lq i) = mq i - lq i := wr (by omega) (by omega)
        have JR2 : Hid (∀ W', Below wA.heap.size wA W' → W'.cell? ⟨lb, i, none⟩ = some (.int .i64 (lq i)) ∧ W'.cell? ⟨mb, i, none⟩ = some (.int .i64 (mq i))) := fun W' h => JR.out W' i hlt h
        have PRE : Hid (Below wA.heap.size wA wo.drew ∧ wo.drew.ownsRow wA.heap.size 3 1 v (rk za i) (vals (rk za i) (pack za wa i))) := ⟨BB.out.drew, OO.out.drew⟩
        clear er ep er2 ev zi zi' htk BB OO
        generalize mq i = mi at *
        generalize lq i = li at *
        generalize hri : rk za i = ri at *
        generalize vals ri (pack za wa i) = xs at *
        clear hri
        obtain ⟨ri1, hri1⟩ : ∃ ri1, ri1 = rk za (i + 1) := ⟨_, rfl⟩
        obtain ⟨xs1, hxs1⟩ : ∃ xs1, xs1 = vals (rk za (i + 1)) (pack za wa (i + 1)) := ⟨_, rfl⟩
        rw [← hxs1, ← hri1] at EV
        have BACK : Hid (ri1 = rk za (i + 1) ∧ xs1 = vals (rk za (i + 1)) (pack za wa (i + 1))) := ⟨hri1, hxs1⟩
        clear hri1 hxs1
        go_wp2_with fail
        refine MJ.wp_region_chain (fun W' => W'.cell? ⟨lb, i, none⟩ = some (.int .i64 li) ∧ W'.cell? ⟨mb, i, none⟩ = some (.int .i64 mi)) [10, 11, 12] [(71, 10), (72, 11), (15, 12)] (stA (fun W' => Below wA.heap.size wA W' ∧ W'.ownsRow wA.heap.size 3 1 v ri xs) 3 [.int .i64 (mi - li)] (fun u W' => Below wA.heap.size wA W' ∧ W'.ownsRow wA.heap.size 3 1 u ri1 xs1)) (by kernel_rfl) (by kernel_rfl) (by simp) ?h0 ?hJ ?_
        case h0 => exact PRE.out
        case hJ =>
          rintro vals W' _ hS'
          exact stA_J (J := fun W' => W'.cell? ⟨lb, i, none⟩ = some (.int .i64 li) ∧ W'.cell? ⟨mb, i, none⟩ = some (.int .i64 mi)) (fun W h => JR2.out W h.1) (fun _ W h => JR2.out W h.1) vals W' hS'
        repeat (refine MJ.lex_calm rfl (by rfl) (fun K hK => ?_); apply Exists.intro; refine ⟨fun W' hW => ?_, ?_⟩; (dsimp only at hW; go_simp; exact rfl); go_simp; refine hK _ ?_; clear hK K)
        refine MJ.lex_chain 0 rfl (by kernel_rfl) rfl ?_ ?_
        · rintro vs W ⟨hB, hO⟩
          have FIN : Hid (stA (fun W' => Below wA.heap.size wA W' ∧ W'.ownsRow wA.heap.size 3 1 v ri xs) 3 [.int .i64 (mi - li)] (fun u W' => Below wA.heap.size wA W' ∧ W'.ownsRow wA.heap.size 3 1 u ri1 xs1) (MJ.valsOf [10, 11, 12] vs 0 ++ [.slice (some ⟨W.heap.size, 0, none⟩) 1 1]) (W.alloc (.cells [.int .i64 (mi - li)].toArray 3))) := ⟨W.heap.size, rfl, Blk.new rfl, hB.alloc hB.size _, hO.alloc _⟩
          clear hB hO
          simp [go_sem, evS, List.lookup]
          exact FIN.out
        refine MJ.lex_chain 1 rfl (by kernel_rfl) rfl ?_ ?_
        · rintro vs W ⟨g, e, hb, hB, hO⟩
          replace e : vs 10 = .slice (some ⟨g, 0, none⟩) 1 1 := e
          refine does_append W _ _ 22 rfl wA.heap.size 3 i0 (.int .i64 0) 1 8 Try.underlying22 hi0 hz0 hz1 hz2 rfl (by decide) v ri xs rfl hO ⟨g, 0, none⟩ 1 1 [.int .i64 (mi - li)] e (by decide) rfl ?c1 ?c2 ?c3 ?c4 ?c5 ?_
          case c1 =>
            intro j u hj
            rw [addr_add]
            exact hb.cell j hj
          case c2 => intro u hu; simp at hu; subst hu; rfl
          case c3 => unfold maxLen; omega
          case c4 => omega
          case c5 => exact hB.size
          intro v' w' ho hgr hd
          exact ⟨below_appended hB hgr (own_lt hO), by rw [EV.out.2, EV.out.1]; exact ho⟩
        refine MJ.lex_chain 2 rfl (by kernel_rfl) rfl ?_ ?_
        · rintro vs W hA
          have y := hide hA
          clear hA
          simp [go_sem, evS, List.lookup]
          exact y.out
        refine MJ.lex_nil ?_
        rintro vs w5 ⟨h1, h2⟩
        have B5 := hide h1
        have h2' : w5.ownsRow wA.heap.size 3 1 (vs 12) ri1 xs1 := h2
        rw [BACK.out.2, BACK.out.1] at h2'
        have O5 := hide h2'
        clear h1 h2 h2' PRE JR2 EV BACK
        simp only [fillS, List.foldl_cons, List.foldl_nil]
        go_wp2_with fail
        go_roundg (n - i)
        case measure => omega
        case rel => exact ⟨i + 1, _, rfl, by go_num, by omega, by omega, B5, O5⟩
      · have d1 : (tk == 1) = false := by simpa using htk
        rw [decide_eq_false htk] at zi
        have zi' : za i = true := by rw [zi]; rfl
        have O5 : Hid (wo.ownsRow wA.heap.size 3 1 v (rk za (i + 1)) (vals (rk za (i + 1)) (pack za wa (i + 1)))) := by
          rw [er, ep]
          simp only [zi', if_true, Nat.add_zero]
          exact OO.out
        clear er ep zi zi' htk OO
        go_wp2_with fail
        go_roundg (n - i)
        case measure => omega
        case rel => exact ⟨i + 1, _, rfl, by go_num, by omega, by omega, BB, O5⟩
    · have hltz : ¬ (i : Int) < (n : Int) := by omega
      obtain rfl : n = i := by omega
      have dF : decide (0 < F) = false := decide_eq_false (by omega)
      have KB : Hid (Kept sb wA wo) := Kept.of BB.out
      have SZ : Hid (0 < n → CRw wo sb n s1) := fun h => ((HS0.out h).2.below BB.out).congr fun j _ => (S1E.out j).symm
      clear OO BB hi hgg hlt hltz
      go_wp2_with fail
      have Bwo : Hid (Below w.heap.size w wo) := BW.out.trans (KB.out.below NL.out.2.2 BW.out.size)
      have LX : Hid (IRow wo lb n lq) := RA.out.1.kept KB.out NL.out.1
      have woS : Hid (wA.heap.size ≤ wo.heap.size) := KB.out.size
      have O3 : Hid (wo.ownsRow wo.heap.size 69 5 (.slice none 0 0) (rk zf 0) (flat (rk zf 0) 5 (fxC (fun k => fx (selN zf 0 k))))) := World.ownsRow_nil _ _ _ _
      obtain ⟨iX, x1, x2, x3, x4⟩ := info_partsX info_fxG
      have R0 : Hid (av = reJ av gap zf s1 0) := (reJ_zero _ _ _ _).symm
      have FLN : Hid (∀ i, zf i = false → flat (rk zf (i + 1)) 5 (fxC (fun k => fx (selN zf (i + 1) k))) = flat (rk zf i) 5 (fxC (fun k => fx (selN zf i k))) ++ [.int .i64 0, .int .i64 (min (lq i) 1048576), .int .i64 1048576, .int .i64 (t i).nn, .int .i64 0]) := fun i hz => by
        have e : rk zf (i + 1) = rk zf i + 1 := by simp [rk, hz]
        rw [e, flat_succ]
        congr 1
        · refine flat_congr fun k hk j => ?_
          unfold fxC
          dsimp only
          rw [selN_same hk]
        · unfold fxC
          dsimp only
          rw [selN_new hz, FXE.out]
          rfl
      have FLS : Hid (∀ i, zf i = true → rk zf (i + 1) = rk zf i ∧ flat (rk zf (i + 1)) 5 (fxC (fun k => fx (selN zf (i + 1) k))) = flat (rk zf i) 5 (fxC (fun k => fx (selN zf i k)))) := fun i hz => by
        have e : rk zf (i + 1) = rk zf i := by simp [rk, hz]
        refine ⟨e, ?_⟩
        rw [e]
        refine flat_congr fun k hk j => ?_
        unfold fxC
        dsimp only
        rw [selN_same hk]
      obtain ⟨g1, g2⟩ := HG.out
      obtain ⟨av1, av2⟩ := HAV.out
      go_loopg [20, 21, 22] (n + 1) (fun g4 vr vf vi wr => ∃ (i : Nat) (rj : Int) (v : Value), vr = .int .i64 rj ∧ v = vf ∧ vi = .int .i64 (i : Int) ∧ i ≤ n ∧ n - i < g4 ∧ Hid (rj = reJ av gap zf s1 i) ∧ Hid (Below wo.heap.size wo wr) ∧ Hid (wr.ownsRow wo.heap.size 69 5 v (rk zf i) (flat (rk zf i) 5 (fxC (fun k => fx (selN zf i k))))))
      case atStart => exact ⟨0, av, _, rfl, rfl, by go_num, by omega, by omega, R0, Below.refl _ _, O3⟩
      case round =>
        clear O3 R0
        obtain ⟨wz, rfl⟩ : ∃ wz : World, wz = wr := ⟨_, rfl⟩
        obtain ⟨i, rj, v, rfl, rfl, rfl, hi, hg4, ERJ, BB, OO⟩ := hrel
        by_cases hlt : i < n
        · have hltz : (i : Int) < (n : Int) := by omega
          obtain ⟨b, off, rfl, hb, hc⟩ := (HP.out.below (Bwo.out.trans (BB.out.mono Bwo.out.size))) (by omega)
          have c0 : wz.cell? ⟨b, off + i * 2, none⟩ = some (.int .i64 (t i).kd) := hc i hlt 0 (by decide)
          have JX : Hid (∀ W', Below wo.heap.size wo W' → W'.cell? ⟨lb, i, none⟩ = some (.int .i64 (lq i)) ∧ W'.cell? ⟨b, off + i * 2 + 1, none⟩ = some (.int .i64 (t i).nn)) := fun W' h => ⟨(LX.out.below h LX.out.lt).cell hlt, by
            obtain ⟨b', off', e', hb', hc'⟩ := (HP.out.below (Bwo.out.trans (h.mono Bwo.out.size))) (by omega)
            simp only [Option.some.injEq, Addr.mk.injEq, and_true] at e'
            obtain ⟨rfl, rfl⟩ := e'
            exact hc' i hlt 1 (by decide)⟩
          have hps := (HS0.out (by omega)).1
          have sc := ((SZ.out (by omega)).below BB.out).cell hlt
          have zi := ZF.out i
          have RN := reJ_next av gap zf s1 i
          rw [← ERJ.out] at RN
          have rb1 := RB.out i (by omega)
          have rb2 := RB.out (i + 1) (by omega)
          rw [← ERJ.out] at rb1
          obtain ⟨s11, s12⟩ := S1B.out i hlt
          obtain ⟨rb11, rb12⟩ := rb1
          clear hc hb
          by_cases htk : (t i).kd = 2
          · have d1 : ((t i).kd == 2) = true := by simpa using htk
            rw [decide_eq_true htk] at zi
            have zi' : zf i = false := by rw [zi]; rfl
            have EV : Hid (rk zf (i + 1) = rk zf i + 1 ∧ flat (rk zf (i + 1)) 5 (fxC (fun k => fx (selN zf (i + 1) k))) = flat (rk zf i) 5 (fxC (fun k => fx (selN zf i k))) ++ [.int .i64 0, .int .i64 (min (lq i) 1048576), .int .i64 1048576, .int .i64 (t i).nn, .int .i64 0]) := ⟨by simp [rk, zi'], FLN.out i zi'⟩
            have rb := rk_le zf i
            rw [zi'] at RN
            simp only [Bool.false_eq_true, if_false, Int.sub_zero] at RN
            have PRE : Hid (∀ W', W' = wz.drew → Below wo.heap.size wo W' ∧ W'.ownsRow wo.heap.size 69 5 v (rk zf i) (flat (rk zf i) 5 (fxC (fun k => fx (selN zf i k))))) := fun W' h => by subst h; exact ⟨BB.out.drew, OO.out.drew⟩
            clear ERJ zi zi' BB OO sc htk
            generalize (t i).kd = tk at *
            generalize (t i).nn = nn at *
            generalize lq i = li at *
            obtain ⟨ri, hri⟩ : ∃ ri, ri = rk zf i := ⟨_, rfl⟩
            obtain ⟨xs, hxs⟩ : ∃ xs, xs = flat (rk zf i) 5 (fxC (fun k => fx (selN zf i k))) := ⟨_, rfl⟩
            obtain ⟨ri1, hri1⟩ : ∃ ri1, ri1 = rk zf (i + 1) := ⟨_, rfl⟩
            obtain ⟨xs1, hxs1⟩ : ∃ xs1, xs1 = flat (rk zf (i + 1)) 5 (fxC (fun k => fx (selN zf (i + 1) k))) := ⟨_, rfl⟩
            rw [← hxs1, ← hri1, ← hxs, ← hri] at EV
            rw [← hxs, ← hri] at PRE
            rw [← hri] at rb
            have BACK : Hid (ri1 = rk zf (i + 1) ∧ xs1 = flat (rk zf (i + 1)) 5 (fxC (fun k => fx (selN zf (i + 1) k)))) := ⟨hri1, hxs1⟩
            clear hri hxs hri1 hxs1
            by_cases hi0 : i = 0
            case' pos =>
              have hz0 : ¬ (0 : Int) < (i : Int) := by omega
              have RN2 : Hid (rj = reJ av gap zf s1 (i + 1)) := by show _ = _; rw [RN, if_neg (by omega)]; omega
            case' neg =>
              have hz0 : (0 : Int) < (i : Int) := by omega
              have RN2 : Hid (rj - gap = reJ av gap zf s1 (i + 1)) := by show _ = _; rw [RN, if_pos (by omega)]
              have wrj : IntKind.i64.wrap (rj - gap) = rj - gap := wr (by omega) (by omega)
            all_goals
              clear RN rb2 hi0
              subst hps
              go_wp2_with fail
              refine MJ.wp_region_chain (fun W' => W'.cell? ⟨lb, i, none⟩ = some (.int .i64 li) ∧ W'.cell? ⟨b, off + i * 2 + 1, none⟩ = some (.int .i64 nn)) [12, 13, 14] [(140, 12), (141, 13), (21, 14)] (stA (fun W' => Below wo.heap.size wo W' ∧ W'.ownsRow wo.heap.size 69 5 v ri xs) 69 [.int .i64 0, .int .i64 (min li 1048576), .int .i64 1048576, .int .i64 nn, .int .i64 0] (fun u W' => Below wo.heap.size wo W' ∧ W'.ownsRow wo.heap.size 69 5 u ri1 xs1)) (by kernel_rfl) (by kernel_rfl) (by simp) ?h0 ?hJ ?_
              case h0 => exact PRE.out _ rfl
              case hJ =>
                rintro vals W' _ hS'
                exact stA_J (J := fun W' => W'.cell? ⟨lb, i, none⟩ = some (.int .i64 li) ∧ W'.cell? ⟨b, off + i * 2 + 1, none⟩ = some (.int .i64 nn)) (fun W h => JX.out W h.1) (fun _ W h => JX.out W h.1) vals W' hS'
              repeat (refine MJ.lex_calm rfl (by rfl) (fun K hK => ?_); apply Exists.intro; refine ⟨fun W' hW => ?_, ?_⟩; (dsimp only at hW; go_simp; exact rfl); go_simp; refine hK _ ?_; clear hK K)
              refine MJ.lex_chain 0 rfl (by kernel_rfl) rfl ?_ ?_
              · rintro vs W ⟨hB, hO⟩
                have FIN : Hid (stA (fun W' => Below wo.heap.size wo W' ∧ W'.ownsRow wo.heap.size 69 5 v ri xs) 69 [.int .i64 0, .int .i64 (min li 1048576), .int .i64 1048576, .int .i64 nn, .int .i64 0] (fun u W' => Below wo.heap.size wo W' ∧ W'.ownsRow wo.heap.size 69 5 u ri1 xs1) (MJ.valsOf [12, 13, 14] vs 0 ++ [.slice (some ⟨W.heap.size, 0, none⟩) 1 1]) (W.alloc (.cells [.int .i64 0, .int .i64 (min li 1048576), .int .i64 1048576, .int .i64 nn, .int .i64 0].toArray 69))) := ⟨W.heap.size, rfl, Blk.new rfl, hB.alloc hB.size _, hO.alloc _⟩
                clear hB hO
                simp [go_sem, evS, List.lookup]
                exact FIN.out
              refine MJ.lex_chain 1 rfl (by kernel_rfl) rfl ?_ ?_
              · rintro vs W ⟨g, e, hb, hB, hO⟩
                replace e : vs 12 = .slice (some ⟨g, 0, none⟩) 1 1 := e
                refine does_append W _ _ 67 rfl wo.heap.size 69 iX _ 5 40 Try.underlying67 x1 x2 x3 x4 rfl (by decide) v ri xs rfl hO ⟨g, 0, none⟩ 1 1 [.int .i64 0, .int .i64 (min li 1048576), .int .i64 1048576, .int .i64 nn, .int .i64 0] e (by decide) rfl ?c1 ?c2 ?c3 ?c4 ?c5 ?_
                case c1 =>
                  intro j u hj
                  rw [addr_add]
                  exact hb.cell j hj
                case c2 => intro u hu; simp at hu; rcases hu with rfl | rfl | rfl | rfl | rfl <;> rfl
                case c3 => unfold maxLen; omega
                case c4 => omega
                case c5 => exact hB.size
                intro v' w' ho hgr hd
                exact ⟨below_appended hB hgr (own_lt hO), by rw [EV.out.2, EV.out.1]; exact ho⟩
              refine MJ.lex_chain 2 rfl (by kernel_rfl) rfl ?_ ?_
              · rintro vs W hA
                have y := hide hA
                clear hA
                simp [go_sem, evS, List.lookup]
                exact y.out
              refine MJ.lex_nil ?_
              rintro vs w5 ⟨h1, h2⟩
              have B5 := hide h1
              have h2' : w5.ownsRow wo.heap.size 69 5 (vs 14) ri1 xs1 := h2
              rw [BACK.out.2, BACK.out.1] at h2'
              have O5 := hide h2'
              clear h1 h2 h2' PRE JX EV BACK
              simp only [fillS, List.foldl_cons, List.foldl_nil]
              go_wp2_with fail
              go_roundg (n - i)
              case measure => omega
              case rel => exact ⟨i + 1, _, _, rfl, rfl, by go_num, by omega, by omega, RN2, B5, O5⟩
          · have d1 : ((t i).kd == 2) = false := by simpa using htk
            rw [decide_eq_false htk] at zi
            have zi' : zf i = true := by rw [zi]; rfl
            rw [zi'] at RN
            simp only [if_true] at RN
            have O5 : Hid (wz.ownsRow wo.heap.size 69 5 v (rk zf (i + 1)) (flat (rk zf (i + 1)) 5 (fxC (fun k => fx (selN zf (i + 1) k))))) := by
              obtain ⟨e1, e2⟩ := FLS.out i zi'
              rw [e2, e1]
              exact OO.out
            clear ERJ zi zi' OO htk JX
            generalize (t i).kd = tk at *
            by_cases hi0 : i = 0
            case' pos =>
              have hz0 : ¬ (0 : Int) < (i : Int) := by omega
              have RN2 : Hid (rj - s1 i = reJ av gap zf s1 (i + 1)) := by show _ = _; rw [RN, if_neg (by omega)]; omega
            case' neg =>
              have hz0 : (0 : Int) < (i : Int) := by omega
              have RN2 : Hid (rj - gap - s1 i = reJ av gap zf s1 (i + 1)) := by show _ = _; rw [RN, if_pos (by omega)]
              have wrj : IntKind.i64.wrap (rj - gap) = rj - gap := wr (by omega) (by omega)
            all_goals
              clear RN rb2 hi0
              subst hps
              generalize s1 i = si at *
              go_wp2_with fail
              go_roundg (n - i)
              case measure => omega
              case rel => exact ⟨i + 1, _, _, rfl, rfl, by go_num, by omega, by omega, RN2, BB, O5⟩
        · have hltz : ¬ (i : Int) < (n : Int) := by omega
          obtain rfl : n = i := by omega
          obtain ⟨pf, cf, hvf, hSR⟩ := own_srowG OO.out
          subst hvf
          have rb := rk_le zf n
          have rbn := RB.out n (by omega)
          rw [← ERJ.out] at rbn
          have RS := hide (rResolve_ok (max 0 rj) 0 pf (rk zf n) cf (fun k => fx (selN zf n k)) wz hSR (by omega) (by omega) (by omega) FX.out)
          have KX : Hid (Kept sb wA wz) := KB.out.then BB.out
          have SX : Hid (0 < n → CRw wz sb n (fun j => if j < 0 then tr j else s1 j)) := fun h => ((SZ.out h).below BB.out).congr fun j _ => by simp
          have WZS : Hid (wA.heap.size ≤ wz.heap.size) := KX.out.size
          have TRZ : Hid (∀ i, zf i = true → tr i = s1 i) := fun i h => by rw [TRE.out i, h]; rfl
          have TRY : Hid (∀ i, zf i = false → tr i = resF (max 0 rj) 0 (fun k => fx (selN zf n k)) (rk zf n) (rk zf i)) := fun i h => by rw [TRE.out i, h, ERJ.out]; rfl
          have RKL : Hid (∀ i, i < n → zf i = false → rk zf i < rk zf n) := fun i h1 h2 => rk_lt h1 h2
          clear OO BB hi hg4 hlt hltz hSR TRE KB SZ FLN FLS Bwo LX ERJ
          generalize resF (max 0 rj) 0 (fun k => fx (selN zf n k)) (rk zf n) = RR at *
          generalize rk zf n = cn2 at *
          go_wp2_with fail
          refine RS.out.mono ?_
          rintro e w6 ⟨b2, rfl, hb2, hR6, hB6⟩
          have K6 : Hid (Kept sb wA w6) := KX.out.then hB6
          have S6 : Hid (0 < n → CRw w6 sb n (fun j => if j < 0 then tr j else s1 j)) := fun h => (SX.out h).below hB6
          have R6 : Hid (IRow w6 b2 cn2 RR) := hR6
          have NB2 : Hid (0 < n → b2 ≠ sb) := fun h => by have := SBL.out h; have := WZS.out; omega
          clear RS KX SX hb2 hR6 hB6
          go_wp2_with fail
          have RZ4 : Hid ((0 : Int) = ((rk zf 0 : Nat) : Int)) := rfl
          go_loopg [25, 26] (n + 1) (fun g5 vk vi wr => ∃ (i : Nat) (kq : Int), vk = .int .i64 kq ∧ vi = .int .i64 (i : Int) ∧ i ≤ n ∧ n - i < g5 ∧ Hid (kq = ((rk zf i : Nat) : Int)) ∧ Hid (Kept sb wA wr) ∧ Hid (0 < n → IRow wr b2 cn2 RR) ∧ Hid (0 < n → CRw wr sb n (fun j => if j < i then tr j else s1 j)))
          case atStart => exact ⟨0, 0, rfl, by go_num, by omega, by omega, RZ4, K6, fun _ => R6.out, S6⟩
          case round =>
            clear K6 R6 S6 RZ4
            obtain ⟨wy, rfl⟩ : ∃ wy : World, wy = wr := ⟨_, rfl⟩
            obtain ⟨i, kq, rfl, rfl, hi, hg5, EKQ, KK, PR, SR⟩ := hrel
            by_cases hlt : i < n
            · have hltz : (i : Int) < (n : Int) := by omega
              obtain ⟨b, off, rfl, hb, hc⟩ := (HP.out.below (BW.out.trans (KK.out.below NL.out.2.2 BW.out.size))) (by omega)
              have c0 : wy.cell? ⟨b, off + i * 2, none⟩ = some (.int .i64 (t i).kd) := hc i hlt 0 (by decide)
              have zi := ZF.out i
              have er : rk zf (i + 1) = rk zf i + (if zf i then 0 else 1) := rfl
              have hps := (HS0.out (by omega)).1
              have SR1 := SR.out (by omega)
              have PR1 := PR.out (by omega)
              clear hc hb
              generalize (t i).kd = tk at *
              by_cases htk : tk = 2
              · have d1 : (tk == 2) = true := by simpa using htk
                rw [decide_eq_true htk] at zi
                have zi' : zf i = false := by rw [zi]; rfl
                have EN : Hid (kq + 1 = ((rk zf (i + 1) : Nat) : Int)) := by show _ = _; rw [er, zi', EKQ.out]; simp
                have rlt := RKL.out i hlt zi'
                have TR1 : Hid (tr i = RR (rk zf i)) := TRY.out i zi'
                have rn := rk_le zf i
                obtain ⟨ri, hri⟩ : ∃ ri, ri = rk zf i := ⟨_, rfl⟩
                rw [← hri] at rlt TR1 EKQ rn
                have ekq : kq = (ri : Int) := EKQ.out
                subst ekq
                have rltz : (ri : Int) < (cn2 : Int) := by omega
                have y1 := SR1.cell hlt
                rw [if_neg (Nat.lt_irrefl _)] at y1
                have y2 := SR1.frozen i
                have y4 := PR1.cell rlt
                have K7 : Hid (Kept sb wA (wy.setCell ⟨sb, i, none⟩ (.int .i64 (RR ri)))) := KK.out.set _ _
                have P7 : Hid (0 < n → IRow (wy.setCell ⟨sb, i, none⟩ (.int .i64 (RR ri))) b2 cn2 RR) := fun h => PR1.far (NB2.out h) _
                have S7 : Hid (0 < n → CRw (wy.setCell ⟨sb, i, none⟩ (.int .i64 (RR ri))) sb n (fun j => if j < i + 1 then tr j else s1 j)) := fun _ => (SR1.set_ i _).congr fun j hj => by
                  by_cases h1 : j = i
                  · subst h1; rw [if_pos rfl, if_pos (by omega)]; exact TR1.out.symm
                  · by_cases h2 : j < i
                    · rw [if_neg h1, if_pos h2, if_pos (by omega)]
                    · rw [if_neg h1, if_neg h2, if_neg (by omega)]
                clear KK PR SR er zi zi' htk TR1 EKQ hri SR1 PR1
                subst hps
                go_wp2_with fail
                go_roundg (n - i)
                case measure => omega
                case rel => exact ⟨i + 1, _, rfl, by go_num, by omega, by omega, EN, K7, P7, S7⟩
              · have d1 : (tk == 2) = false := by simpa using htk
                rw [decide_eq_false htk] at zi
                have zi' : zf i = true := by rw [zi]; rfl
                have EN : Hid (kq = ((rk zf (i + 1) : Nat) : Int)) := by show _ = _; rw [er, zi']; exact EKQ.out
                have S7 : Hid (0 < n → CRw wy sb n (fun j => if j < i + 1 then tr j else s1 j)) := fun _ => SR1.congr fun j hj => by
                  by_cases h1 : j = i
                  · subst h1; rw [if_neg (Nat.lt_irrefl _), if_pos (by omega)]; exact (TRZ.out _ zi').symm
                  · by_cases h2 : j < i
                    · rw [if_pos h2, if_pos (by omega)]
                    · rw [if_neg h2, if_neg (by omega)]
                clear er zi zi' htk SR SR1 PR1
                go_wp2_with fail
                go_roundg (n - i)
                case measure => omega
                case rel => exact ⟨i + 1, _, rfl, by go_num, by omega, by omega, EN, KK, PR, S7⟩
            · have hltz : ¬ (i : Int) < (n : Int) := by omega
              obtain rfl : n = i := by omega
              have RDZ : Hid (Reads wy ps n tr) := fun h => by
                rw [(HS0.out h).1]
                exact ((SR.out h).congr fun j hj => by rw [if_pos hj]).reads h
              have BZ : Hid (Below w.heap.size w wy) := BW.out.trans (KK.out.below NL.out.2.2 BW.out.size)
              clear KK PR SR EKQ
              go_wp2_with fail
              go_ret2
              first
                | exact ⟨ps, cs, rfl, RDZ.out, BZ.out⟩
                | exact ⟨_, _, ⟨rfl, rfl⟩, RDZ.out, BZ.out⟩
                | exact ⟨ps, ⟨cs, rfl⟩, RDZ.out, BZ.out⟩
end Go.Proofs.Ytdoenkngmgclmaa
