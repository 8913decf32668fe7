/- What contentSizes of package grid returns: the sizes before the fractions; all numbers in range. -/
import Derived.Test.YtdoenkngmgclmaaGdPe
import Derived.Test.YtdoenkngmgclmaaGdR5
import Derived.Shelf.Slices.Clone
import Derived.Test.YtdoenkngmgclmaaBoP
namespace Go.Proofs.Ytdoenkngmgclmaa
open Go.RowKit Go.Sort Go.Shelf
set_option linter.unusedVariables false
set_option linter.unusedSimpArgs false

def cloRen : Ren := ⟨fun | 15 => 47 | n => n, fun | 3 => 3 | 4 => 4 | 22 => 22 | n => n, fun n => n⟩
theorem cloLaid : Lays2.n15 Try.prog cloRen := {
  mixed := by kernel_rfl
  f15 := Try.func47.trans (by kernel_rfl)
  t3 := Try.underlying3
  a3 := Try.isAgg3
  z3 := Try.sizeOf3
  v3 := Try.zeroValue3
  t4 := Try.underlying4
  a4 := Try.isAgg4
  z4 := Try.sizeOf4
  v4 := Try.zeroValue4
  t22 := Try.underlying22
  a22 := Try.isAgg22
  z22 := Try.sizeOf22
  v22 := Try.zeroValue22
  i3 := by kernel_rfl }
theorem clo_any (b n c : Nat) (f : Nat → Int) (w : World) (hn : n ≤ 1048576) (hr : IRow w b n f) :
    Calls Try.prog 47 #[.slice (some ⟨b, 0, none⟩) n c] w fun e w' => ∃ q sb k, e = .returned (.slice q n k) ∧ w.heap.size ≤ sb ∧ (0 < n → q = some ⟨sb, 0, none⟩ ∧ CRw w' sb n f) ∧ Below w.heap.size w w' := by
  have hl : ((List.range n).map f).length = n := by simp
  have h := Any.slices_Clone_int cloLaid b 0 n c ((List.range n).map f) w (by rw [hl]; omega) (by omega) (fun j hj => by
    rw [hl] at hj
    rw [Nat.zero_add, hr.cell hj]
    simp [hj])
  refine (show Calls Try.prog 47 _ w _ from h).mono ?_
  rintro e w' ⟨v', rfl, ho, _, hB⟩
  have ev : ((((List.range n).map f).take n).map (Value.int .i64)) = vals n f := by
    rw [List.take_of_length_le (by rw [hl]; omega)]
    simp [vals]
  rw [ev] at ho
  obtain ⟨q, sb, k, rfl, h1, h2⟩ := own_sz ho
  exact ⟨q, sb, k, rfl, h1, h2, hB⟩
section
variable {w0 w w' : World} {d lb mb : Nat} {gap : Int} {p : Option Addr} {n c : Nat} {t : Nat → Tk} {L M L' M' : Nat → Int}
theorem Dm.far (h : Dm w0 w d lb mb gap p n c t L M) {b i : Nat} (v : Value) (h0 : w0.heap.size ≤ b) (h1 : d ≠ b) (h2 : lb ≠ b) (h3 : mb ≠ b) : Dm w0 (w.setCell ⟨b, i, none⟩ v) d lb mb gap p n c t L M :=
  ⟨h.blk.other h1 v, h.l.far h2 v, h.m.far h3 v, h.el, h.below.setCell h0 v, h.hd, h.hl, h.hm, h.dl, h.dm, h.lm⟩
end
set_option maxHeartbeats 16000000 in
set_option maxRecDepth 100000 in
theorem cs_less (w0 w : World) (d lb mb : Nat) (av gap : Int) (p : Option Addr) (n c m : Nat) (t : Nat → Tk) (I : Nat → It) (D : Dm w0 w d lb mb gap p n c t (lqF t gap I n m) (mqF t gap I n m)) (hn : n ≤ 24) (hav : 0 ≤ av ∧ av ≤ 1048576) (hg : 0 ≤ gap ∧ gap ≤ 1048576) (ht : ∀ i, i < n → okT (t i)) (hI : ∀ k, k < m → okI n (I k)) (hless : frG av t gap I n m < sumF (grG t gap I n m) n) :
    Calls Try.prog 32 #[.pointer (some ⟨d, 0, none⟩), .int .i64 (spcF av gap n)] w fun e w' => ∃ q sb k, e = .returned (.slice q n k) ∧ w.heap.size ≤ sb ∧ (0 < n → q = some ⟨sb, 0, none⟩ ∧ CRw w' sb n (s1G av t gap I n m)) ∧ Below w.heap.size w w' := by
  have HD := hide D
  have HP := hide D.el
  have hmk : ∀ W : World, (Instr.makeSlice 22 (.int .i64 (n : Int)) (.int .i64 (n : Int))).run Try.prog W = .ok (.slice (some ⟨W.heap.size, 0, none⟩) n n) (W.alloc (.cells (ints n (fun _ => 0)) 3)) := make_ints n (by omega)
  have LB : Hid (∀ i, i < n → 0 ≤ lqF t gap I n m i ∧ lqF t gap I n m i ≤ 1048576) := fun i hi => ⟨(lq_tight hg.1 ht hI hi).1, (lq_tight hg.1 ht hI hi).2.1⟩
  have GB : Hid (∀ i, i < n → 0 ≤ grG t gap I n m i ∧ grG t gap I n m i ≤ 1048576) := fun i hi => gr_bd hg.1 ht hI hi
  have GG : Hid (Good (grG t gap I n m) n) := gr_good hg.1 ht hI
  have GY : Hid (∀ i, (t i).kd = 1 → grG t gap I n m i = mqF t gap I n m i - lqF t gap I n m i) := fun i h => by
    show _ = _; unfold grG; rw [zro_no (by unfold zA; rw [decide_eq_true h]; rfl)]; rfl
  have GN : Hid (∀ i, ¬ (t i).kd = 1 → grG t gap I n m i = 0) := fun i h => by
    show _ = _; unfold grG; rw [zro_yes (by unfold zA; rw [decide_eq_false h]; rfl)]
  have MB : Hid (∀ i, i < n → 0 ≤ mqF t gap I n m i ∧ mqF t gap I n m i ≤ 1048576) := fun i hi => by
    have := (lq_tight (m := m) hg.1 ht hI hi).1
    have := mq_tight (m := m) hg.1 ht hI hi
    omega
  have S1 : Hid (∀ i, i < n → lqF t gap I n m i + shr (frG av t gap I n m) (grG t gap I n m) n i = s1G av t gap I n m i) := fun i hi => s1_less hg.1 ht hI hless hi
  have SB := sumF_bound (f := lqF t gap I n m) (B := 1048576) n LB.out
  have SG := sumF_bound (f := grG t gap I n m) (B := 1048576) n GB.out
  have SP := spc_bd (n := n) hav hg
  have EF : Hid (frG av t gap I n m = max (spcF av gap n - sumF (lqF t gap I n m) n) 0) := rfl
  obtain ⟨sb1, sb2⟩ := SB
  obtain ⟨sg1, sg2⟩ := SG
  obtain ⟨sp1, sp2⟩ := SP
  have sb3 : sumF (lqF t gap I n m) n ≤ 104857600 := by omega
  have sg3 : sumF (grG t gap I n m) n ≤ 104857600 := by omega
  have sp3 : -104857600 ≤ spcF av gap n := by omega
  have sp4 : spcF av gap n ≤ 1048576 := by omega
  have fr1 : 0 ≤ frG av t gap I n m ∧ frG av t gap I n m ≤ 1048576 := by rw [EF.out]; omega
  clear sb2 sg2 sp1 sp2 D ht hI hg hav
  generalize lqF t gap I n m = lq at *
  generalize mqF t gap I n m = mq at *
  generalize grG t gap I n m = gr at *
  generalize s1G av t gap I n m = s1 at *
  generalize frG av t gap I n m = fr at *
  generalize spcF av gap n = sp at *
  have SML : ∀ W', Dm w0 W' d lb mb gap p n c t lq mq → Hid (Calls Try.prog 45 #[.slice (some ⟨lb, 0, none⟩) n n] W' fun e w' => e = .returned (.int .i64 (sumF lq n)) ∧ W' = w') := fun W' h => hide (gsum_any _ n n lq W' (by omega) (fun k hk => by have := LB.out k hk; omega) h.l.reads)
  have SMG : ∀ W' gb, IRow W' gb n gr → Hid (Calls Try.prog 45 #[.slice (some ⟨gb, 0, none⟩) n n] W' fun e w' => e = .returned (.int .i64 (sumF gr n)) ∧ W' = w') := fun W' gb h => hide (gsum_any _ n n gr W' (by omega) (fun k hk => by have := GB.out k hk; omega) h.reads)
  have c1 := HD.out.blk.cell 1 rfl
  have c1' : (w.alloc (.cells (ints n (fun _ => 0)) 3)).cell? ⟨d, 1, none⟩ = some (.slice p n c) := (HD.out.alloc _).blk.cell 1 rfl
  have D1 : Hid (Dm w0 (w.alloc (.cells (ints n (fun _ => 0)) 3)) d lb mb gap p n c t lq mq) := HD.out.alloc _
  have R1 : Hid (IRow (w.alloc (.cells (ints n (fun _ => 0)) 3)) w.heap.size n (fun j => if j < 0 then gr j else 0)) := (IRow.new w n (fun _ => 0)).congr fun j hj => by simp
  have B1 : Hid (Below w.heap.size w (w.alloc (.cells (ints n (fun _ => 0)) 3))) := (Below.refl _ _).alloc (Nat.le_refl _) _
  have NG : Hid (w0.heap.size ≤ w.heap.size ∧ d ≠ w.heap.size ∧ lb ≠ w.heap.size ∧ mb ≠ w.heap.size) := ⟨HD.out.below.size, Nat.ne_of_lt HD.out.lts.1, Nat.ne_of_lt HD.out.lts.2.1, Nat.ne_of_lt HD.out.lts.2.2⟩
  clear HD
  go_enter Try.func32, Try.ntmps32
  go_wp2_with fail
  clear hmk c1 c1'
  generalize w.alloc (.cells (ints n fun _ => 0) 3) = w1 at *
  obtain ⟨gb, hgb⟩ : ∃ gb, gb = w.heap.size := ⟨_, rfl⟩
  rw [← hgb] at R1 NG ⊢
  have HGB : Hid (w.heap.size ≤ gb) := Nat.le_of_eq hgb.symm
  clear hgb
  go_loopg [23] (n + 1) (fun g1 vk wr => ∃ i : Nat, vk = .int .i64 (i : Int) ∧ i ≤ n ∧ n - i < g1 ∧ Hid (Dm w0 wr d lb mb gap p n c t lq mq) ∧ Hid (IRow wr gb n (fun j => if j < i then gr j else 0)) ∧ Hid (Below w.heap.size w wr))
  case atStart => exact ⟨0, by go_num, by omega, by omega, D1, R1, B1⟩
  case round =>
    clear D1 R1 B1
    obtain ⟨wo, rfl⟩ : ∃ wo : World, wo = wr := ⟨_, rfl⟩
    obtain ⟨i, rfl, hi, hgg, DD, RR, BB⟩ := hrel
    by_cases hlt : i < n
    · have hltz : (i : Int) < (n : Int) := by omega
      obtain ⟨b, off, rfl, hb, hc⟩ := (HP.out.below DD.out.below) (by omega)
      have c0 : wo.cell? ⟨b, off + i * 2, none⟩ = some (.int .i64 (t i).kd) := hc i hlt 0 (by decide)
      have c1 : wo.cell? ⟨b, off + i * 2 + 1, none⟩ = some (.int .i64 (t i).nn) := hc i hlt 1 (by decide)
      have YES := hide (GY.out i)
      have NO := hide (GN.out i)
      have DA := hide (fun o => DD.out.alloc o)
      have RA := hide (fun o => RR.out.alloc o)
      have BA : Hid (∀ o, Below w.heap.size w (wo.alloc o)) := fun o => BB.out.alloc BB.out.size o
      have NX : Hid (wo.heap.size ≠ gb) := Nat.ne_of_gt RR.out.lt
      obtain ⟨l1, l2⟩ := LB.out i hlt
      obtain ⟨m1, m2⟩ := MB.out i hlt
      clear hc hb DD RR BB
      generalize (t i).kd = kd at *
      generalize (t i).nn = nn at *
      have D2 := hide (DA.out (.cells #[.int .i64 kd, .int .i64 nn] 42))
      have R2 := hide (RA.out (.cells #[.int .i64 kd, .int .i64 nn] 42))
      have B2 := hide (BA.out (.cells #[.int .i64 kd, .int .i64 nn] 42))
      have TB : Hid (Blk (wo.alloc (.cells #[.int .i64 kd, .int .i64 nn] 42)) wo.heap.size 42 [.int .i64 kd, .int .i64 nn]) := Blk.new rfl
      have t0 := TB.out.cell 0 rfl
      clear DA RA BA
      by_cases h1 : kd = 1
      · have d1 : (kd == 1) = true := by simpa using h1
        have e1 := YES.out h1
        have GE : Hid (gr i = mq i - lq i) := e1
        clear YES NO h1 e1
        go_wp2_with fail
        clear c0 c1 t0
        generalize wo.alloc (.cells #[.int .i64 kd, .int .i64 nn] 42) = w3 at *
        generalize wo.heap.size = tb at *
        obtain ⟨li, hli⟩ : ∃ li, li = lq i := ⟨_, rfl⟩
        obtain ⟨mi, hmi⟩ : ∃ mi, mi = mq i := ⟨_, rfl⟩
        rw [← hli, ← hmi] at GE
        rw [← hli] at l1 l2
        rw [← hmi] at m1 m2
        have JQ : Hid (∀ W', Dm w0 W' d lb mb gap (some ⟨b, off, none⟩) n c t lq mq → W'.cell? ⟨d, 2, none⟩ = some (.slice (some ⟨lb, 0, none⟩) n n) ∧ W'.cell? ⟨d, 3, none⟩ = some (.slice (some ⟨mb, 0, none⟩) n n) ∧ W'.cell? ⟨lb, i, none⟩ = some (.int .i64 li) ∧ W'.cell? ⟨mb, i, none⟩ = some (.int .i64 mi)) := fun W' h => ⟨h.blk.cell 2 rfl, h.blk.cell 3 rfl, hli ▸ h.l.cell hlt, hmi ▸ h.m.cell hlt⟩
        have PRE : Hid (Dm w0 w3.drew d lb mb gap (some ⟨b, off, none⟩) n c t lq mq ∧ IRow w3.drew gb n (fun j => if j < i then gr j else 0) ∧ Below w.heap.size w w3.drew ∧ Blk w3.drew tb 42 [.int .i64 kd, .int .i64 nn]) := ⟨D2.out.drewN 1, R2.out, B2.out.drew, TB.out⟩
        have ST0 : Hid (∀ W', (Dm w0 W' d lb mb gap (some ⟨b, off, none⟩) n c t lq mq ∧ IRow W' gb n (fun j => if j < i then gr j else 0) ∧ Below w.heap.size w W' ∧ Blk W' tb 42 [.int .i64 kd, .int .i64 nn]) → W'.cell? ⟨gb, i, none⟩ = some (.int .i64 0) ∧ W'.frozen? ⟨gb, i, none⟩ = false ∧ (Dm w0 (W'.setCell ⟨gb, i, none⟩ (.int .i64 (mi - li))) d lb mb gap (some ⟨b, off, none⟩) n c t lq mq ∧ IRow (W'.setCell ⟨gb, i, none⟩ (.int .i64 (mi - li))) gb n (fun j => if j < i + 1 then gr j else 0) ∧ Below w.heap.size w (W'.setCell ⟨gb, i, none⟩ (.int .i64 (mi - li))) ∧ Blk (W'.setCell ⟨gb, i, none⟩ (.int .i64 (mi - li))) tb 42 [.int .i64 kd, .int .i64 nn])) := fun W' ⟨h1, h2, h3, h4⟩ => ⟨by have := h2.cell hlt; rw [if_neg (Nat.lt_irrefl _)] at this; exact this, h2.frozen _, h1.far _ NG.out.1 NG.out.2.1 NG.out.2.2.1 NG.out.2.2.2, (h2.set_ i _).congr (fun j _ => by
          by_cases q : j = i
          · subst q; rw [if_pos rfl, if_pos (show j < j + 1 by omega), GE.out]
          · by_cases q2 : j < i
            · rw [if_neg q, if_pos q2, if_pos (show j < i + 1 by omega)]
            · rw [if_neg q, if_neg q2, if_neg (show ¬ j < i + 1 by omega)]), h3.setCell HGB.out _, h4.other NX.out _⟩
        have wml : IntKind.i64.wrap (mi - li) = mi - li := wr (by omega) (by omega)
        clear D2 R2 B2 TB GE hli hmi
        refine MJ.wp_region_chain (fun W' => W'.cell? ⟨d, 2, none⟩ = some (.slice (some ⟨lb, 0, none⟩) n n) ∧ W'.cell? ⟨d, 3, none⟩ = some (.slice (some ⟨mb, 0, none⟩) n n) ∧ W'.cell? ⟨lb, i, none⟩ = some (.int .i64 li) ∧ W'.cell? ⟨mb, i, none⟩ = some (.int .i64 mi)) [18] [] (s1t (fun W' => (Dm w0 W' d lb mb gap (some ⟨b, off, none⟩) n c t lq mq ∧ IRow W' gb n (fun j => if j < i then gr j else 0) ∧ Below w.heap.size w W' ∧ Blk W' tb 42 [.int .i64 kd, .int .i64 nn])) (fun W' => (Dm w0 W' d lb mb gap (some ⟨b, off, none⟩) n c t lq mq ∧ IRow W' gb n (fun j => if j < i + 1 then gr j else 0) ∧ Below w.heap.size w W' ∧ Blk W' tb 42 [.int .i64 kd, .int .i64 nn]))) (by kernel_rfl) (by kernel_rfl) (by simp) ?h0 ?hJ ?_
        case h0 => exact PRE.out
        case hJ =>
          rintro vals W' (hl | hl) hS'
          · exact s1t_J (J := fun W' => W'.cell? ⟨d, 2, none⟩ = some (.slice (some ⟨lb, 0, none⟩) n n) ∧ W'.cell? ⟨d, 3, none⟩ = some (.slice (some ⟨mb, 0, none⟩) n n) ∧ W'.cell? ⟨lb, i, none⟩ = some (.int .i64 li) ∧ W'.cell? ⟨mb, i, none⟩ = some (.int .i64 mi)) (fun W h => JQ.out W h.1) vals W' hl hS'
          · exact absurd hl (by rw [show MJ.sinkL _ _ = true by kernel_rfl]; exact Bool.noConfusion)
        repeat (refine MJ.lex_calm rfl (by rfl) (fun K hK => ?_); apply Exists.intro; refine ⟨fun W' hW => ?_, ?_⟩; (dsimp only at hW; go_simp; exact rfl); go_simp; refine hK _ ?_; clear hK K)
        refine MJ.lex_chain 0 rfl (by kernel_rfl) rfl ?_ ?_
        · rintro vs W' hS'
          obtain ⟨y1, y2, y3⟩ := ST0.out W' hS'
          have y3 := hide y3
          clear hS'
          simp [go_sem, evS, List.lookup, y1, y2]
          exact y3.out
        refine MJ.lex_nil ?_
        rintro vs w5 ⟨h1, h2, h3, h4⟩
        have D5 := hide h1
        have R5 := hide h2
        have B5 := hide h3
        clear h1 h2 h3 h4 ST0 PRE JQ
        simp only [fillS, List.foldl_nil]
        go_wp2_with fail
        go_roundg (n - i)
        case measure => omega
        case rel => exact ⟨i + 1, by go_num, by omega, by omega, D5, R5, B5⟩
      · have d1 : (kd == 1) = false := by simpa using h1
        have e1 := NO.out h1
        have R5 : Hid (IRow (wo.alloc (.cells #[.int .i64 kd, .int .i64 nn] 42)) gb n (fun j => if j < i + 1 then gr j else 0)) := R2.out.congr fun j _ => by
          by_cases q : j = i
          · subst q; rw [if_neg (Nat.lt_irrefl _), if_pos (show j < j + 1 by omega), e1]
          · by_cases q2 : j < i
            · rw [if_pos q2, if_pos (show j < i + 1 by omega)]
            · rw [if_neg q2, if_neg (show ¬ j < i + 1 by omega)]
        clear YES NO h1 e1 R2
        go_wp2_with fail
        go_roundg (n - i)
        case measure => omega
        case rel => exact ⟨i + 1, by go_num, by omega, by omega, D2, R5, B2⟩
    · have hltz : ¬ (i : Int) < (n : Int) := by omega
      obtain rfl : n = i := by omega
      have GR : Hid (IRow wo gb n gr) := RR.out.congr fun j hj => by rw [if_pos hj]
      have S1L := SML wo DD.out
      have S1G := SMG wo gb GR.out
      have c2 := DD.out.blk.cell 2 rfl
      have wsp : IntKind.i64.wrap (sp - sumF lq n) = sp - sumF lq n := wr (by omega) (by omega)
      clear SML SMG RR GY GN MB
      have hlz : fr < sumF gr n := by omega
      go_wp2_with fail
      refine S1L.out.mono ?_
      rintro e w' ⟨rfl, rfl⟩
      go_wp2_with fail
      rw [← EF.out]
      clear S1L wsp
      refine S1G.out.mono ?_
      rintro e w' ⟨rfl, rfl⟩
      clear S1G
      have SH := hide (share_ok fr (some ⟨gb, 0, none⟩) n n gr wo GR.out.reads ⟨by omega, fr1.1, by omega, GG.out⟩)
      go_wp2_with fail
      refine SH.out.mono ?_
      rintro e w3 ⟨rfl, hB3, P, hPP, hPR⟩
      have D3 := hide (DD.out.grown hB3)
      have B3 : Hid (Below w.heap.size w w3) := BB.out.trans (hB3.mono BB.out.size)
      have P3 : Hid (IRow w3 wo.heap.size n P) := hPR
      have PS : Hid (∀ i, i < n → (0 ≤ P i ∧ P i ≤ 1048576) ∧ lq i + P i = s1 i) := fun i hi => by
        have := hPP.bounds fr1.1 GG.out hi
        have e9 := shr_of hPP hi
        exact ⟨by omega, by rw [e9]; exact S1.out i hi⟩
      clear hB3 hPP hPR SH DD BB GR S1 c2
      generalize wo.heap.size = pb at *
      have c2 := D3.out.blk.cell 2 rfl
      have CL := hide (clo_any lb n n lq w3 (by omega) D3.out.l)
      have PLT : Hid (pb < w3.heap.size) := P3.out.lt
      go_wp2_with fail
      refine CL.out.mono ?_
      rintro e w4 ⟨q, sb, k, rfl, hsb, hS, hB4⟩
      have B4 : Hid (Below w.heap.size w w4) := B3.out.trans (hB4.mono B3.out.size)
      have P4 : Hid (IRow w4 pb n P) := P3.out.below hB4 P3.out.lt
      have S4 : Hid (0 < n → q = some ⟨sb, 0, none⟩ ∧ CRw w4 sb n (fun j => if j < 0 then s1 j else lq j)) := fun h => ⟨(hS h).1, (hS h).2.congr fun j _ => by simp⟩
      have NS : Hid (pb ≠ sb ∧ w.heap.size ≤ sb) := by
        have a := PLT.out
        have b := B3.out.size
        show _ ∧ _
        omega
      clear hS hB4 CL D3 B3 P3 c2 hsb
      go_wp2_with fail
      go_loopg [75] (n + 1) (fun g1 vk wr => ∃ i : Nat, vk = .int .i64 (i : Int) ∧ i ≤ n ∧ n - i < g1 ∧ Hid (Below w.heap.size w wr) ∧ Hid (IRow wr pb n P) ∧ Hid (0 < n → q = some ⟨sb, 0, none⟩ ∧ CRw wr sb n (fun j => if j < i then s1 j else lq j)))
      case atStart => exact ⟨0, by go_num, by omega, by omega, B4, P4, S4⟩
      case round =>
        clear B4 P4 S4
        obtain ⟨wq, rfl⟩ : ∃ wq : World, wq = wr := ⟨_, rfl⟩
        obtain ⟨i, rfl, hi, hg2, BB, PP, SS⟩ := hrel
        by_cases hli : i < n
        · have hliz : (i : Int) < (n : Int) := by omega
          obtain ⟨rfl, SR⟩ := SS.out (by omega)
          have SR := hide SR
          have cp := PP.out.cell hli
          have cs := SR.out.cell hli
          rw [if_neg (Nat.lt_irrefl _)] at cs
          have fz := SR.out.frozen i
          obtain ⟨⟨p1, p2⟩, p3⟩ := PS.out i hli
          obtain ⟨l1, l2⟩ := LB.out i hli
          have NB : Hid (Below w.heap.size w (wq.setCell ⟨sb, i, none⟩ (.int .i64 (lq i + P i)))) := BB.out.setCell NS.out.2 _
          have NP : Hid (IRow (wq.setCell ⟨sb, i, none⟩ (.int .i64 (lq i + P i))) pb n P) := PP.out.far NS.out.1 _
          have NR : Hid (CRw (wq.setCell ⟨sb, i, none⟩ (.int .i64 (lq i + P i))) sb n (fun j => if j < i + 1 then s1 j else lq j)) := (SR.out.set_ i _).congr fun j _ => by
            by_cases q : j = i
            · subst q; rw [if_pos rfl, if_pos (show j < j + 1 by omega), p3]
            · by_cases q2 : j < i
              · rw [if_neg q, if_pos q2, if_pos (show j < i + 1 by omega)]
              · rw [if_neg q, if_neg q2, if_neg (show ¬ j < i + 1 by omega)]
          clear BB PP SR SS p3
          generalize P i = pj at *
          generalize lq i = lj at *
          go_wp2_with fail
          go_roundg (n - i)
          case measure => omega
          case rel => exact ⟨i + 1, by go_num, by omega, by omega, NB, NP, fun _ => ⟨by first | trivial | rfl, NR.out⟩⟩
        · have hliz : ¬ (i : Int) < (n : Int) := by omega
          obtain rfl : n = i := by omega
          go_wp2_with fail
          go_ret
          exact ⟨q, ⟨k, rfl⟩, sb, NS.out.2, fun h => ⟨(SS.out h).1, (SS.out h).2.congr fun j hj => by rw [if_pos hj]⟩, BB.out⟩
set_option maxHeartbeats 16000000 in
set_option maxRecDepth 100000 in
theorem cs_all (w0 w : World) (d lb mb : Nat) (av gap : Int) (p : Option Addr) (n c m : Nat) (t : Nat → Tk) (I : Nat → It) (D : Dm w0 w d lb mb gap p n c t (lqF t gap I n m) (mqF t gap I n m)) (hn : n ≤ 24) (hav : 0 ≤ av ∧ av ≤ 1048576) (hg : 0 ≤ gap ∧ gap ≤ 1048576) (ht : ∀ i, i < n → okT (t i)) (hI : ∀ k, k < m → okI n (I k)) (hless : ¬ frG av t gap I n m < sumF (grG t gap I n m) n) :
    Calls Try.prog 32 #[.pointer (some ⟨d, 0, none⟩), .int .i64 (spcF av gap n)] w fun e w' => ∃ q sb k, e = .returned (.slice q n k) ∧ w.heap.size ≤ sb ∧ (0 < n → q = some ⟨sb, 0, none⟩ ∧ CRw w' sb n (s1G av t gap I n m)) ∧ Below w.heap.size w w' := by
  have HD := hide D
  have HP := hide D.el
  have hmk : ∀ W : World, (Instr.makeSlice 22 (.int .i64 (n : Int)) (.int .i64 (n : Int))).run Try.prog W = .ok (.slice (some ⟨W.heap.size, 0, none⟩) n n) (W.alloc (.cells (ints n (fun _ => 0)) 3)) := make_ints n (by omega)
  have LB : Hid (∀ i, i < n → 0 ≤ lqF t gap I n m i ∧ lqF t gap I n m i ≤ 1048576) := fun i hi => ⟨(lq_tight hg.1 ht hI hi).1, (lq_tight hg.1 ht hI hi).2.1⟩
  have GB : Hid (∀ i, i < n → 0 ≤ grG t gap I n m i ∧ grG t gap I n m i ≤ 1048576) := fun i hi => gr_bd hg.1 ht hI hi
  have GG : Hid (Good (grG t gap I n m) n) := gr_good hg.1 ht hI
  have GY : Hid (∀ i, (t i).kd = 1 → grG t gap I n m i = mqF t gap I n m i - lqF t gap I n m i) := fun i h => by
    show _ = _; unfold grG; rw [zro_no (by unfold zA; rw [decide_eq_true h]; rfl)]; rfl
  have GN : Hid (∀ i, ¬ (t i).kd = 1 → grG t gap I n m i = 0) := fun i h => by
    show _ = _; unfold grG; rw [zro_yes (by unfold zA; rw [decide_eq_false h]; rfl)]
  have MB : Hid (∀ i, i < n → 0 ≤ mqF t gap I n m i ∧ mqF t gap I n m i ≤ 1048576) := fun i hi => by
    have := (lq_tight (m := m) hg.1 ht hI hi).1
    have := mq_tight (m := m) hg.1 ht hI hi
    omega
  have S1 : Hid (∀ i, i < n → lqF t gap I n m i + grG t gap I n m i = s1G av t gap I n m i) := fun i hi => s1_all hg.1 ht hI hless hi
  have SB := sumF_bound (f := lqF t gap I n m) (B := 1048576) n LB.out
  have SG := sumF_bound (f := grG t gap I n m) (B := 1048576) n GB.out
  have SP := spc_bd (n := n) hav hg
  have EF : Hid (frG av t gap I n m = max (spcF av gap n - sumF (lqF t gap I n m) n) 0) := rfl
  obtain ⟨sb1, sb2⟩ := SB
  obtain ⟨sg1, sg2⟩ := SG
  obtain ⟨sp1, sp2⟩ := SP
  have sb3 : sumF (lqF t gap I n m) n ≤ 104857600 := by omega
  have sg3 : sumF (grG t gap I n m) n ≤ 104857600 := by omega
  have sp3 : -104857600 ≤ spcF av gap n := by omega
  have sp4 : spcF av gap n ≤ 1048576 := by omega
  have fr1 : 0 ≤ frG av t gap I n m ∧ frG av t gap I n m ≤ 1048576 := by rw [EF.out]; omega
  clear sb2 sg2 sp1 sp2 D ht hI hg hav
  generalize lqF t gap I n m = lq at *
  generalize mqF t gap I n m = mq at *
  generalize grG t gap I n m = gr at *
  generalize s1G av t gap I n m = s1 at *
  generalize frG av t gap I n m = fr at *
  generalize spcF av gap n = sp at *
  have SML : ∀ W', Dm w0 W' d lb mb gap p n c t lq mq → Hid (Calls Try.prog 45 #[.slice (some ⟨lb, 0, none⟩) n n] W' fun e w' => e = .returned (.int .i64 (sumF lq n)) ∧ W' = w') := fun W' h => hide (gsum_any _ n n lq W' (by omega) (fun k hk => by have := LB.out k hk; omega) h.l.reads)
  have SMG : ∀ W' gb, IRow W' gb n gr → Hid (Calls Try.prog 45 #[.slice (some ⟨gb, 0, none⟩) n n] W' fun e w' => e = .returned (.int .i64 (sumF gr n)) ∧ W' = w') := fun W' gb h => hide (gsum_any _ n n gr W' (by omega) (fun k hk => by have := GB.out k hk; omega) h.reads)
  have c1 := HD.out.blk.cell 1 rfl
  have c1' : (w.alloc (.cells (ints n (fun _ => 0)) 3)).cell? ⟨d, 1, none⟩ = some (.slice p n c) := (HD.out.alloc _).blk.cell 1 rfl
  have D1 : Hid (Dm w0 (w.alloc (.cells (ints n (fun _ => 0)) 3)) d lb mb gap p n c t lq mq) := HD.out.alloc _
  have R1 : Hid (IRow (w.alloc (.cells (ints n (fun _ => 0)) 3)) w.heap.size n (fun j => if j < 0 then gr j else 0)) := (IRow.new w n (fun _ => 0)).congr fun j hj => by simp
  have B1 : Hid (Below w.heap.size w (w.alloc (.cells (ints n (fun _ => 0)) 3))) := (Below.refl _ _).alloc (Nat.le_refl _) _
  have NG : Hid (w0.heap.size ≤ w.heap.size ∧ d ≠ w.heap.size ∧ lb ≠ w.heap.size ∧ mb ≠ w.heap.size) := ⟨HD.out.below.size, Nat.ne_of_lt HD.out.lts.1, Nat.ne_of_lt HD.out.lts.2.1, Nat.ne_of_lt HD.out.lts.2.2⟩
  clear HD
  go_enter Try.func32, Try.ntmps32
  go_wp2_with fail
  clear hmk c1 c1'
  generalize w.alloc (.cells (ints n fun _ => 0) 3) = w1 at *
  obtain ⟨gb, hgb⟩ : ∃ gb, gb = w.heap.size := ⟨_, rfl⟩
  rw [← hgb] at R1 NG ⊢
  have HGB : Hid (w.heap.size ≤ gb) := Nat.le_of_eq hgb.symm
  clear hgb
  go_loopg [23] (n + 1) (fun g1 vk wr => ∃ i : Nat, vk = .int .i64 (i : Int) ∧ i ≤ n ∧ n - i < g1 ∧ Hid (Dm w0 wr d lb mb gap p n c t lq mq) ∧ Hid (IRow wr gb n (fun j => if j < i then gr j else 0)) ∧ Hid (Below w.heap.size w wr))
  case atStart => exact ⟨0, by go_num, by omega, by omega, D1, R1, B1⟩
  case round =>
    clear D1 R1 B1
    obtain ⟨wo, rfl⟩ : ∃ wo : World, wo = wr := ⟨_, rfl⟩
    obtain ⟨i, rfl, hi, hgg, DD, RR, BB⟩ := hrel
    by_cases hlt : i < n
    · have hltz : (i : Int) < (n : Int) := by omega
      obtain ⟨b, off, rfl, hb, hc⟩ := (HP.out.below DD.out.below) (by omega)
      have c0 : wo.cell? ⟨b, off + i * 2, none⟩ = some (.int .i64 (t i).kd) := hc i hlt 0 (by decide)
      have c1 : wo.cell? ⟨b, off + i * 2 + 1, none⟩ = some (.int .i64 (t i).nn) := hc i hlt 1 (by decide)
      have YES := hide (GY.out i)
      have NO := hide (GN.out i)
      have DA := hide (fun o => DD.out.alloc o)
      have RA := hide (fun o => RR.out.alloc o)
      have BA : Hid (∀ o, Below w.heap.size w (wo.alloc o)) := fun o => BB.out.alloc BB.out.size o
      have NX : Hid (wo.heap.size ≠ gb) := Nat.ne_of_gt RR.out.lt
      obtain ⟨l1, l2⟩ := LB.out i hlt
      obtain ⟨m1, m2⟩ := MB.out i hlt
      clear hc hb DD RR BB
      generalize (t i).kd = kd at *
      generalize (t i).nn = nn at *
      have D2 := hide (DA.out (.cells #[.int .i64 kd, .int .i64 nn] 42))
      have R2 := hide (RA.out (.cells #[.int .i64 kd, .int .i64 nn] 42))
      have B2 := hide (BA.out (.cells #[.int .i64 kd, .int .i64 nn] 42))
      have TB : Hid (Blk (wo.alloc (.cells #[.int .i64 kd, .int .i64 nn] 42)) wo.heap.size 42 [.int .i64 kd, .int .i64 nn]) := Blk.new rfl
      have t0 := TB.out.cell 0 rfl
      clear DA RA BA
      by_cases h1 : kd = 1
      · have d1 : (kd == 1) = true := by simpa using h1
        have e1 := YES.out h1
        have GE : Hid (gr i = mq i - lq i) := e1
        clear YES NO h1 e1
        go_wp2_with fail
        clear c0 c1 t0
        generalize wo.alloc (.cells #[.int .i64 kd, .int .i64 nn] 42) = w3 at *
        generalize wo.heap.size = tb at *
        obtain ⟨li, hli⟩ : ∃ li, li = lq i := ⟨_, rfl⟩
        obtain ⟨mi, hmi⟩ : ∃ mi, mi = mq i := ⟨_, rfl⟩
        rw [← hli, ← hmi] at GE
        rw [← hli] at l1 l2
        rw [← hmi] at m1 m2
        have JQ : Hid (∀ W', Dm w0 W' d lb mb gap (some ⟨b, off, none⟩) n c t lq mq → W'.cell? ⟨d, 2, none⟩ = some (.slice (some ⟨lb, 0, none⟩) n n) ∧ W'.cell? ⟨d, 3, none⟩ = some (.slice (some ⟨mb, 0, none⟩) n n) ∧ W'.cell? ⟨lb, i, none⟩ = some (.int .i64 li) ∧ W'.cell? ⟨mb, i, none⟩ = some (.int .i64 mi)) := fun W' h => ⟨h.blk.cell 2 rfl, h.blk.cell 3 rfl, hli ▸ h.l.cell hlt, hmi ▸ h.m.cell hlt⟩
        have PRE : Hid (Dm w0 w3.drew d lb mb gap (some ⟨b, off, none⟩) n c t lq mq ∧ IRow w3.drew gb n (fun j => if j < i then gr j else 0) ∧ Below w.heap.size w w3.drew ∧ Blk w3.drew tb 42 [.int .i64 kd, .int .i64 nn]) := ⟨D2.out.drewN 1, R2.out, B2.out.drew, TB.out⟩
        have ST0 : Hid (∀ W', (Dm w0 W' d lb mb gap (some ⟨b, off, none⟩) n c t lq mq ∧ IRow W' gb n (fun j => if j < i then gr j else 0) ∧ Below w.heap.size w W' ∧ Blk W' tb 42 [.int .i64 kd, .int .i64 nn]) → W'.cell? ⟨gb, i, none⟩ = some (.int .i64 0) ∧ W'.frozen? ⟨gb, i, none⟩ = false ∧ (Dm w0 (W'.setCell ⟨gb, i, none⟩ (.int .i64 (mi - li))) d lb mb gap (some ⟨b, off, none⟩) n c t lq mq ∧ IRow (W'.setCell ⟨gb, i, none⟩ (.int .i64 (mi - li))) gb n (fun j => if j < i + 1 then gr j else 0) ∧ Below w.heap.size w (W'.setCell ⟨gb, i, none⟩ (.int .i64 (mi - li))) ∧ Blk (W'.setCell ⟨gb, i, none⟩ (.int .i64 (mi - li))) tb 42 [.int .i64 kd, .int .i64 nn])) := fun W' ⟨h1, h2, h3, h4⟩ => ⟨by have := h2.cell hlt; rw [if_neg (Nat.lt_irrefl _)] at this; exact this, h2.frozen _, h1.far _ NG.out.1 NG.out.2.1 NG.out.2.2.1 NG.out.2.2.2, (h2.set_ i _).congr (fun j _ => by
          by_cases q : j = i
          · subst q; rw [if_pos rfl, if_pos (show j < j + 1 by omega), GE.out]
          · by_cases q2 : j < i
            · rw [if_neg q, if_pos q2, if_pos (show j < i + 1 by omega)]
            · rw [if_neg q, if_neg q2, if_neg (show ¬ j < i + 1 by omega)]), h3.setCell HGB.out _, h4.other NX.out _⟩
        have wml : IntKind.i64.wrap (mi - li) = mi - li := wr (by omega) (by omega)
        clear D2 R2 B2 TB GE hli hmi
        refine MJ.wp_region_chain (fun W' => W'.cell? ⟨d, 2, none⟩ = some (.slice (some ⟨lb, 0, none⟩) n n) ∧ W'.cell? ⟨d, 3, none⟩ = some (.slice (some ⟨mb, 0, none⟩) n n) ∧ W'.cell? ⟨lb, i, none⟩ = some (.int .i64 li) ∧ W'.cell? ⟨mb, i, none⟩ = some (.int .i64 mi)) [18] [] (s1t (fun W' => (Dm w0 W' d lb mb gap (some ⟨b, off, none⟩) n c t lq mq ∧ IRow W' gb n (fun j => if j < i then gr j else 0) ∧ Below w.heap.size w W' ∧ Blk W' tb 42 [.int .i64 kd, .int .i64 nn])) (fun W' => (Dm w0 W' d lb mb gap (some ⟨b, off, none⟩) n c t lq mq ∧ IRow W' gb n (fun j => if j < i + 1 then gr j else 0) ∧ Below w.heap.size w W' ∧ Blk W' tb 42 [.int .i64 kd, .int .i64 nn]))) (by kernel_rfl) (by kernel_rfl) (by simp) ?h0 ?hJ ?_
        case h0 => exact PRE.out
        case hJ =>
          rintro vals W' (hl | hl) hS'
          · exact s1t_J (J := fun W' => W'.cell? ⟨d, 2, none⟩ = some (.slice (some ⟨lb, 0, none⟩) n n) ∧ W'.cell? ⟨d, 3, none⟩ = some (.slice (some ⟨mb, 0, none⟩) n n) ∧ W'.cell? ⟨lb, i, none⟩ = some (.int .i64 li) ∧ W'.cell? ⟨mb, i, none⟩ = some (.int .i64 mi)) (fun W h => JQ.out W h.1) vals W' hl hS'
          · exact absurd hl (by rw [show MJ.sinkL _ _ = true by kernel_rfl]; exact Bool.noConfusion)
        repeat (refine MJ.lex_calm rfl (by rfl) (fun K hK => ?_); apply Exists.intro; refine ⟨fun W' hW => ?_, ?_⟩; (dsimp only at hW; go_simp; exact rfl); go_simp; refine hK _ ?_; clear hK K)
        refine MJ.lex_chain 0 rfl (by kernel_rfl) rfl ?_ ?_
        · rintro vs W' hS'
          obtain ⟨y1, y2, y3⟩ := ST0.out W' hS'
          have y3 := hide y3
          clear hS'
          simp [go_sem, evS, List.lookup, y1, y2]
          exact y3.out
        refine MJ.lex_nil ?_
        rintro vs w5 ⟨h1, h2, h3, h4⟩
        have D5 := hide h1
        have R5 := hide h2
        have B5 := hide h3
        clear h1 h2 h3 h4 ST0 PRE JQ
        simp only [fillS, List.foldl_nil]
        go_wp2_with fail
        go_roundg (n - i)
        case measure => omega
        case rel => exact ⟨i + 1, by go_num, by omega, by omega, D5, R5, B5⟩
      · have d1 : (kd == 1) = false := by simpa using h1
        have e1 := NO.out h1
        have R5 : Hid (IRow (wo.alloc (.cells #[.int .i64 kd, .int .i64 nn] 42)) gb n (fun j => if j < i + 1 then gr j else 0)) := R2.out.congr fun j _ => by
          by_cases q : j = i
          · subst q; rw [if_neg (Nat.lt_irrefl _), if_pos (show j < j + 1 by omega), e1]
          · by_cases q2 : j < i
            · rw [if_pos q2, if_pos (show j < i + 1 by omega)]
            · rw [if_neg q2, if_neg (show ¬ j < i + 1 by omega)]
        clear YES NO h1 e1 R2
        go_wp2_with fail
        go_roundg (n - i)
        case measure => omega
        case rel => exact ⟨i + 1, by go_num, by omega, by omega, D2, R5, B2⟩
    · have hltz : ¬ (i : Int) < (n : Int) := by omega
      obtain rfl : n = i := by omega
      have GR : Hid (IRow wo gb n gr) := RR.out.congr fun j hj => by rw [if_pos hj]
      have S1L := SML wo DD.out
      have S1G := SMG wo gb GR.out
      have c2 := DD.out.blk.cell 2 rfl
      have wsp : IntKind.i64.wrap (sp - sumF lq n) = sp - sumF lq n := wr (by omega) (by omega)
      clear SML SMG RR GY GN MB
      have hlz : ¬ fr < sumF gr n := by omega
      go_wp2_with fail
      refine S1L.out.mono ?_
      rintro e w' ⟨rfl, rfl⟩
      go_wp2_with fail
      rw [← EF.out]
      clear S1L wsp
      refine S1G.out.mono ?_
      rintro e w' ⟨rfl, rfl⟩
      clear S1G
      obtain ⟨P, hP⟩ : ∃ P, P = gr := ⟨_, rfl⟩
      have P3 : Hid (IRow wo gb n P) := by rw [hP]; exact GR.out
      have PS : Hid (∀ i, i < n → (0 ≤ P i ∧ P i ≤ 1048576) ∧ lq i + P i = s1 i) := fun i hi => by rw [hP]; exact ⟨GB.out i hi, S1.out i hi⟩
      have D3 := DD
      have B3 := BB
      clear hP DD BB GR S1
      obtain ⟨w3, hw3⟩ : ∃ w3 : World, w3 = wo := ⟨_, rfl⟩
      obtain ⟨pb, hpb⟩ : ∃ pb, pb = gb := ⟨_, rfl⟩
      rw [← hw3] at P3 D3 B3 c2 ⊢
      rw [← hpb] at P3 ⊢
      clear hw3 hpb
      have CL := hide (clo_any lb n n lq w3 (by omega) D3.out.l)
      have PLT : Hid (pb < w3.heap.size) := P3.out.lt
      go_wp2_with fail
      refine CL.out.mono ?_
      rintro e w4 ⟨q, sb, k, rfl, hsb, hS, hB4⟩
      have B4 : Hid (Below w.heap.size w w4) := B3.out.trans (hB4.mono B3.out.size)
      have P4 : Hid (IRow w4 pb n P) := P3.out.below hB4 P3.out.lt
      have S4 : Hid (0 < n → q = some ⟨sb, 0, none⟩ ∧ CRw w4 sb n (fun j => if j < 0 then s1 j else lq j)) := fun h => ⟨(hS h).1, (hS h).2.congr fun j _ => by simp⟩
      have NS : Hid (pb ≠ sb ∧ w.heap.size ≤ sb) := by
        have a := PLT.out
        have b := B3.out.size
        show _ ∧ _
        omega
      clear hS hB4 CL D3 B3 P3 c2 hsb
      go_wp2_with fail
      go_loopg [75] (n + 1) (fun g1 vk wr => ∃ i : Nat, vk = .int .i64 (i : Int) ∧ i ≤ n ∧ n - i < g1 ∧ Hid (Below w.heap.size w wr) ∧ Hid (IRow wr pb n P) ∧ Hid (0 < n → q = some ⟨sb, 0, none⟩ ∧ CRw wr sb n (fun j => if j < i then s1 j else lq j)))
      case atStart => exact ⟨0, by go_num, by omega, by omega, B4, P4, S4⟩
      case round =>
        clear B4 P4 S4
        obtain ⟨wq, rfl⟩ : ∃ wq : World, wq = wr := ⟨_, rfl⟩
        obtain ⟨i, rfl, hi, hg2, BB, PP, SS⟩ := hrel
        by_cases hli : i < n
        · have hliz : (i : Int) < (n : Int) := by omega
          obtain ⟨rfl, SR⟩ := SS.out (by omega)
          have SR := hide SR
          have cp := PP.out.cell hli
          have cs := SR.out.cell hli
          rw [if_neg (Nat.lt_irrefl _)] at cs
          have fz := SR.out.frozen i
          obtain ⟨⟨p1, p2⟩, p3⟩ := PS.out i hli
          obtain ⟨l1, l2⟩ := LB.out i hli
          have NB : Hid (Below w.heap.size w (wq.setCell ⟨sb, i, none⟩ (.int .i64 (lq i + P i)))) := BB.out.setCell NS.out.2 _
          have NP : Hid (IRow (wq.setCell ⟨sb, i, none⟩ (.int .i64 (lq i + P i))) pb n P) := PP.out.far NS.out.1 _
          have NR : Hid (CRw (wq.setCell ⟨sb, i, none⟩ (.int .i64 (lq i + P i))) sb n (fun j => if j < i + 1 then s1 j else lq j)) := (SR.out.set_ i _).congr fun j _ => by
            by_cases q : j = i
            · subst q; rw [if_pos rfl, if_pos (show j < j + 1 by omega), p3]
            · by_cases q2 : j < i
              · rw [if_neg q, if_pos q2, if_pos (show j < i + 1 by omega)]
              · rw [if_neg q, if_neg q2, if_neg (show ¬ j < i + 1 by omega)]
          clear BB PP SR SS p3
          generalize P i = pj at *
          generalize lq i = lj at *
          go_wp2_with fail
          go_roundg (n - i)
          case measure => omega
          case rel => exact ⟨i + 1, by go_num, by omega, by omega, NB, NP, fun _ => ⟨by first | trivial | rfl, NR.out⟩⟩
        · have hliz : ¬ (i : Int) < (n : Int) := by omega
          obtain rfl : n = i := by omega
          go_wp2_with fail
          go_ret
          exact ⟨q, ⟨k, rfl⟩, sb, NS.out.2, fun h => ⟨(SS.out h).1, (SS.out h).2.congr fun j hj => by rw [if_pos hj]⟩, BB.out⟩
theorem cs_any (w0 w : World) (d lb mb : Nat) (av gap : Int) (p : Option Addr) (n c m : Nat) (t : Nat → Tk) (I : Nat → It) (D : Dm w0 w d lb mb gap p n c t (lqF t gap I n m) (mqF t gap I n m)) (hn : n ≤ 24) (hav : 0 ≤ av ∧ av ≤ 1048576) (hg : 0 ≤ gap ∧ gap ≤ 1048576) (ht : ∀ i, i < n → okT (t i)) (hI : ∀ k, k < m → okI n (I k)) :
    Calls Try.prog 32 #[.pointer (some ⟨d, 0, none⟩), .int .i64 (spcF av gap n)] w fun e w' => ∃ q sb k, e = .returned (.slice q n k) ∧ w.heap.size ≤ sb ∧ (0 < n → q = some ⟨sb, 0, none⟩ ∧ CRw w' sb n (s1G av t gap I n m)) ∧ Below w.heap.size w w' := by
  by_cases h : frG av t gap I n m < sumF (grG t gap I n m) n
  · exact cs_less w0 w d lb mb av gap p n c m t I D hn hav hg ht hI h
  · exact cs_all w0 w d lb mb av gap p n c m t I D hn hav hg ht hI h
end Go.Proofs.Ytdoenkngmgclmaa
/- What fill of package grid makes of the sizes: those of the tracks with a fraction; all numbers in range. -/
namespace Go.Proofs.Ytdoenkngmgclmaa
open Go.RowKit Go.Sort
set_option linter.unusedVariables false
set_option linter.unusedSimpArgs false

theorem own_moveP {w w' : World} {base : Nat} {e : TypeId} {size : Nat} {v : Value} {n : Nat} {xs : List Value} (h : w.ownsRow base e size v n xs) (hb : ∀ b, v.ownBlock = some b → w'.heap[b]? = w.heap[b]?) : w'.ownsRow base e size v n xs := by
  refine ⟨h.1, ?_⟩
  rcases h.2 with hn | ⟨g, cap, cur, rfl, h1, h2, h3⟩
  · exact Or.inl hn
  · exact Or.inr ⟨g, cap, cur, rfl, h1, (hb g rfl).trans h2, h3⟩
theorem own_belowP {w w' : World} {base : Nat} {e : TypeId} {size : Nat} {v : Value} {n : Nat} {xs : List Value} (h : w.ownsRow base e size v n xs) (hb : Below w.heap.size w w') : w'.ownsRow base e size v n xs :=
  own_moveP h fun b hv => hb.block b (h.lt b hv).2
theorem own_grownP {w w' : World} {base base' : Nat} {e e' : TypeId} {size size' : Nat} {v u : Value} {n n' : Nat} {xs xs' : List Value} (h : w.ownsRow base e size v n xs) (h' : w.ownsRow base' e' size' u n' xs') (he : e ≠ e') (hg : w.grownBy w' u.ownBlock) : w'.ownsRow base e size v n xs :=
  own_moveP h fun b hv => hg.block b (h.lt b hv).2 fun hu => by
    rcases h.2 with ⟨rfl, _⟩ | ⟨g, cap, cur, rfl, _, h2, _⟩
    · exact absurd hv (by simp [Value.ownBlock])
    · rcases h'.2 with ⟨rfl, _⟩ | ⟨g', cap', cur', rfl, _, h2', _⟩
      · exact absurd hu (by simp [Value.ownBlock])
      · simp [Value.ownBlock] at hv hu
        subst hv
        subst hu
        rw [h2] at h2'
        simp at h2'
        exact he h2'.2
theorem blk_grownP {w w' : World} {base' b : Nat} {e e' : TypeId} {size' : Nat} {u : Value} {n' : Nat} {vs xs' : List Value} (h : Blk w b e vs) (h' : w.ownsRow base' e' size' u n' xs') (he : e ≠ e') (hg : w.grownBy w' u.ownBlock) : Blk w' b e vs :=
  (hg.block b h.lt fun hu => by
    rcases h'.2 with ⟨rfl, _⟩ | ⟨g', cap', cur', rfl, _, h2', _⟩
    · exact absurd hu (by simp [Value.ownBlock])
    · simp [Value.ownBlock] at hu
      subst hu
      have h2 : w.heap[b]? = some (.cells vs.toArray e (0, 0)) := h
      rw [h2] at h2'
      simp at h2'
      exact he h2'.2).trans h
section
variable {zf : Nat → Bool} {fx : Nat → Fx} {i : Nat}
theorem vi_new (hz : zf i = false) : rk zf (i + 1) = rk zf i + 1 ∧ (vals (rk zf (i + 1)) (fun k => ((selN zf (i + 1) k : Nat) : Int))) = (vals (rk zf i) (fun k => ((selN zf i k : Nat) : Int))) ++ [.int .i64 (i : Int)] := by
  have e : rk zf (i + 1) = rk zf i + 1 := by simp [rk, hz]
  refine ⟨e, ?_⟩
  rw [e, vals_succ]
  congr 1
  · exact vals_congr fun k hk => by rw [selN_same hk]
  · rw [selN_new hz]
theorem vi_same (hz : zf i = true) : rk zf (i + 1) = rk zf i ∧ (vals (rk zf (i + 1)) (fun k => ((selN zf (i + 1) k : Nat) : Int))) = (vals (rk zf i) (fun k => ((selN zf i k : Nat) : Int))) := by
  have e : rk zf (i + 1) = rk zf i := by simp [rk, hz]
  refine ⟨e, ?_⟩
  rw [e]
  exact vals_congr fun k hk => by rw [selN_same hk]
theorem fl_newP (hz : zf i = false) : (flat (rk zf (i + 1)) 5 (fxC (fun k => fx (selN zf (i + 1) k)))) = (flat (rk zf i) 5 (fxC (fun k => fx (selN zf i k)))) ++ [.int .i64 (fx i).ba, .int .i64 (fx i).mn, .int .i64 (fx i).mx, .int .i64 (fx i).gr, .int .i64 (fx i).sh] := by
  have e : rk zf (i + 1) = rk zf i + 1 := by simp [rk, hz]
  rw [e, flat_succ]
  congr 1
  · refine flat_congr fun k hk j => ?_
    unfold fxC
    dsimp only
    rw [selN_same hk]
  · unfold fxC
    dsimp only
    rw [selN_new hz]
    rfl
theorem fl_sameP (hz : zf i = true) : (flat (rk zf (i + 1)) 5 (fxC (fun k => fx (selN zf (i + 1) k)))) = (flat (rk zf i) 5 (fxC (fun k => fx (selN zf i k)))) := by
  have e : rk zf (i + 1) = rk zf i := by simp [rk, hz]
  rw [e]
  refine flat_congr fun k hk j => ?_
  unfold fxC
  dsimp only
  rw [selN_same hk]
theorem rk_inj {j : Nat} (hi : zf i = false) (hj : zf j = false) (h : rk zf i = rk zf j) : i = j := by
  rcases Nat.lt_trichotomy i j with l | l | l
  · have := rk_lt l hi; omega
  · exact l
  · have := rk_lt l hj; omega
end
def spJ (sp : Int) (z : Nat → Bool) (s : Nat → Int) (i : Nat) : Int := sp - sumF (fun j => if z j then s j else 0) i
theorem spJ_next (sp : Int) (z : Nat → Bool) (s : Nat → Int) (i : Nat) : spJ sp z s (i + 1) = spJ sp z s i - (if z i then s i else 0) := by
  unfold spJ
  simp only [sumF]
  omega
theorem spJ_bd {sp : Int} {z : Nat → Bool} {s : Nat → Int} {i : Nat} (h : -104857600 ≤ sp ∧ sp ≤ 1048576) (hi : i ≤ 24) (hs : ∀ j, j < i → 0 ≤ s j ∧ s j ≤ 4194304) : -1073741824 ≤ spJ sp z s i ∧ spJ sp z s i ≤ 1048576 := by
  have b := sumF_bound (f := fun j => if z j then s j else 0) (B := 4194304) i fun j hj => by
    have := hs j hj
    show 0 ≤ (if z j then s j else 0) ∧ (if z j then s j else 0) ≤ 4194304
    split <;> omega
  unfold spJ
  omega
set_option maxHeartbeats 40000000 in
set_option maxRecDepth 100000 in
theorem fill_any (w0 w : World) (d lb mb : Nat) (av gap : Int) (p : Option Addr) (n c m : Nat) (t : Nat → Tk) (I : Nat → It) (D : Dm w0 w d lb mb gap p n c t (lqF t gap I n m) (mqF t gap I n m)) (q : Option Addr) (sb k0 : Nat) (hS : 0 < n → q = some ⟨sb, 0, none⟩ ∧ CRw w sb n (s1G av t gap I n m)) (hn : n ≤ 24) (hm : m ≤ 100) (hav : 0 ≤ av ∧ av ≤ 1048576) (hg : 0 ≤ gap ∧ gap ≤ 1048576) (ht : ∀ i, i < n → okT (t i)) (hI : ∀ k, k < m → okI n (I k)) :
    Calls Try.prog 33 #[.pointer (some ⟨d, 0, none⟩), .int .i64 (spcF av gap n), .slice q n k0] w fun e w' => e = .returned (.tuple #[]) ∧ (0 < n → CRw w' sb n (trF av t gap I n m)) ∧ Kept sb w w' := by
  have HD := hide D
  have HP := hide D.el
  have HS := hide hS
  have LB : Hid (∀ i, i < n → 0 ≤ lqF t gap I n m i ∧ lqF t gap I n m i ≤ 1048576) := fun i hi => ⟨(lq_tight hg.1 ht hI hi).1, (lq_tight hg.1 ht hI hi).2.1⟩
  have SB : Hid (∀ i, i < n → 0 ≤ s1G av t gap I n m i ∧ s1G av t gap I n m i ≤ 4194304) := fun i hi => s1_bd hav hg ht hI hi
  have FXE : Hid (∀ i, i < n → zF t i = false → fxG t gap I n m i = ⟨0, lqF t gap I n m i, 1048576, (t i).nn, 0⟩) := fun i hi _ => by
    have := LB.out i hi
    unfold fxG
    rw [show min (lqF t gap I n m i) 1048576 = lqF t gap I n m i by omega]
  have FOK : Hid (∀ k, k < rk (zF t) n → okF (fxG t gap I n m (selN (zF t) n k))) := fun k hk => fx_ok hm ⟨by omega, hg, ht, hI⟩ hk
  have TRZ : Hid (∀ i, zF t i = true → trF av t gap I n m i = s1G av t gap I n m i) := fun i h => by show _ = _; unfold trF; rw [if_pos h]
  have TRY : Hid (∀ i, zF t i = false → trF av t gap I n m i = resF (max (spJ (spcF av gap n) (zF t) (s1G av t gap I n m) n) 0) 0 (fun k => fxG t gap I n m (selN (zF t) n k)) (rk (zF t) n) (rk (zF t) i)) := fun i h => by
    show _ = _
    unfold trF
    rw [if_neg (by rw [h]; exact Bool.false_ne_true), Int.max_comm]
    rfl
  have ZE : Hid (∀ i, zF t i = !decide ((t i).kd = 2)) := fun i => rfl
  have SP := spc_bd (n := n) hav hg
  obtain ⟨sp1, sp2⟩ := SP
  have sp3 : -104857600 ≤ spcF av gap n := by omega
  have sp4 : spcF av gap n ≤ 1048576 := by omega
  clear sp1 sp2 D ht hI hg hav hS
  generalize lqF t gap I n m = lq at *
  generalize mqF t gap I n m = mq at *
  generalize s1G av t gap I n m = s1 at *
  generalize trF av t gap I n m = tr at *
  generalize fxG t gap I n m = fx at *
  generalize spcF av gap n = sp at *
  generalize zF t = zf at *
  have SJ : Hid (∀ i, i ≤ n → -1073741824 ≤ spJ sp zf s1 i ∧ spJ sp zf s1 i ≤ 1048576) := fun i hi => spJ_bd ⟨sp3, sp4⟩ (by omega) fun j hj => SB.out j (by omega)
  obtain ⟨i0, hi0, hz0, hz1, hz2⟩ := info_parts info_int
  obtain ⟨iX, x1, x2, x3, x4⟩ := info_partsX info_fxG
  have hT1 : 69 ≠ 3 := by decide
  have hT2 : 3 ≠ 69 := by decide
  have hT3 : 42 ≠ 3 := by decide
  have hT4 : 42 ≠ 69 := by decide
  have O6 : Hid (w.ownsRow w.heap.size 3 1 (.slice none 0 0) (rk zf 0) (vals (rk zf 0) (fun k => ((selN zf 0 k : Nat) : Int)))) := World.ownsRow_nil _ _ _ _
  have O7 : Hid (w.ownsRow w.heap.size 69 5 (.slice none 0 0) (rk zf 0) (flat (rk zf 0) 5 (fxC (fun k => fx (selN zf 0 k))))) := World.ownsRow_nil _ _ _ _
  have c1 := HD.out.blk.cell 1 rfl
  have E0 : Hid (sp = spJ sp zf s1 0) := by show _ = _; simp [spJ, sumF]
  go_enter Try.func33, Try.ntmps33
  go_wp2_with fail
  clear c1
  go_loopg [1, 6, 7, 19] (n + 1) (fun g1 vs va vb vk wr => ∃ (i : Nat) (sj : Int) (v6 v7 : Value), vs = .int .i64 sj ∧ v6 = va ∧ v7 = vb ∧ vk = .int .i64 (i : Int) ∧ i ≤ n ∧ n - i < g1 ∧ Hid (sj = spJ sp zf s1 i) ∧ Hid (Below w.heap.size w wr) ∧ Hid (wr.ownsRow w.heap.size 3 1 v6 (rk zf i) (vals (rk zf i) (fun k => ((selN zf i k : Nat) : Int)))) ∧ Hid (wr.ownsRow w.heap.size 69 5 v7 (rk zf i) (flat (rk zf i) 5 (fxC (fun k => fx (selN zf i k))))))
  case atStart => exact ⟨0, sp, _, _, rfl, rfl, rfl, by go_num, by omega, by omega, E0, Below.refl _ _, O6, O7⟩
  case round =>
    clear O6 O7 E0
    obtain ⟨wo, rfl⟩ : ∃ wo : World, wo = wr := ⟨_, rfl⟩
    obtain ⟨i, sj, v6, v7, rfl, rfl, rfl, rfl, hi, hgg, ES, BB, O6, O7⟩ := hrel
    by_cases hlt : i < n
    · have hltz : (i : Int) < (n : Int) := by omega
      obtain ⟨b, off, rfl, hb, hc⟩ := (HP.out.below (HD.out.below.trans (BB.out.mono HD.out.below.size))) (by omega)
      have c0 : wo.cell? ⟨b, off + i * 2, none⟩ = some (.int .i64 (t i).kd) := hc i hlt 0 (by decide)
      have c1 : wo.cell? ⟨b, off + i * 2 + 1, none⟩ = some (.int .i64 (t i).nn) := hc i hlt 1 (by decide)
      have V := fun W => hide (gfrac_any (t i) W)
      have zi := ZE.out i
      have FX1 := hide (FXE.out i hlt)
      have rb := rk_le zf i
      clear hc hb
      generalize hy0 : t i = y at *
      clear hy0
      obtain ⟨kd, nn⟩ := y
      dsimp only at *
      have B1 : Hid (Below w.heap.size w (wo.alloc (.cells #[.int .i64 kd, .int .i64 nn] 42))) := BB.out.alloc BB.out.size _
      have P6 : Hid ((wo.alloc (.cells #[.int .i64 kd, .int .i64 nn] 42)).ownsRow w.heap.size 3 1 v6 (rk zf i) (vals (rk zf i) (fun k => ((selN zf i k : Nat) : Int)))) := O6.out.alloc _
      have P7 : Hid ((wo.alloc (.cells #[.int .i64 kd, .int .i64 nn] 42)).ownsRow w.heap.size 69 5 v7 (rk zf i) (flat (rk zf i) 5 (fxC (fun k => fx (selN zf i k))))) := O7.out.alloc _
      have T1 : Hid (Blk (wo.alloc (.cells #[.int .i64 kd, .int .i64 nn] 42)) wo.heap.size 42 [.int .i64 kd, .int .i64 nn]) := Blk.new rfl
      clear BB O6 O7
      by_cases h2 : kd = 2
      · rw [decide_eq_true h2] at V zi
        have zi' : zf i = false := by rw [zi]; rfl
        have fxe := FX1.out zi'
        obtain ⟨e1, e2⟩ := vi_new zi'
        have e3 := fl_newP (fx := fx) zi'
        rw [fxe] at e3
        have EN : Hid (sj = spJ sp zf s1 (i + 1)) := by
          show _ = _
          rw [spJ_next, zi', if_neg Bool.false_ne_true, ES.out]
          omega
        obtain ⟨li, hli⟩ : ∃ li, li = lq i := ⟨_, rfl⟩
        rw [← hli] at e3
        dsimp only at e3
        obtain ⟨ri, hri⟩ : ∃ ri, ri = rk zf i := ⟨_, rfl⟩
        obtain ⟨xs, hxs⟩ : ∃ xs, xs = (flat (rk zf i) 5 (fxC (fun k => fx (selN zf i k)))) := ⟨_, rfl⟩
        obtain ⟨ri1, hri1⟩ : ∃ ri1, ri1 = rk zf (i + 1) := ⟨_, rfl⟩
        obtain ⟨xs1, hxs1⟩ : ∃ xs1, xs1 = (flat (rk zf (i + 1)) 5 (fxC (fun k => fx (selN zf (i + 1) k)))) := ⟨_, rfl⟩
        obtain ⟨ys0, hys0⟩ : ∃ ys0, ys0 = (vals (rk zf i) (fun k => ((selN zf i k : Nat) : Int))) := ⟨_, rfl⟩
        obtain ⟨ys, hys⟩ : ∃ ys, ys = (vals (rk zf (i + 1)) (fun k => ((selN zf (i + 1) k : Nat) : Int))) := ⟨_, rfl⟩
        rw [← hxs, ← hri] at P7
        rw [← hys0, ← hri] at P6
        rw [← hri] at rb
        rw [← hri1, ← hri] at e1
        rw [← hys, ← hys0] at e2
        rw [← hxs1, ← hxs] at e3
        have EV : Hid (ri1 = ri + 1 ∧ ys = ys0 ++ [.int .i64 (i : Int)] ∧ xs1 = xs ++ [.int .i64 0, .int .i64 li, .int .i64 1048576, .int .i64 nn, .int .i64 0]) := ⟨e1, e2, e3⟩
        have BACK : Hid (ri1 = rk zf (i + 1) ∧ ys = (vals (rk zf (i + 1)) (fun k => ((selN zf (i + 1) k : Nat) : Int))) ∧ xs1 = (flat (rk zf (i + 1)) 5 (fxC (fun k => fx (selN zf (i + 1) k))))) := ⟨hri1, hys, hxs1⟩
        have JD : Hid (∀ W', Below w.heap.size w W' → W'.cell? ⟨d, 2, none⟩ = some (.slice (some ⟨lb, 0, none⟩) n n) ∧ W'.cell? ⟨lb, i, none⟩ = some (.int .i64 li)) := fun W' h => ⟨(HD.out.grown h).blk.cell 2 rfl, by rw [hli]; exact (HD.out.grown h).l.cell hlt⟩
        clear zi zi' fxe e1 e2 e3 hxs hri hri1 hxs1 hys0 hys hli FX1 h2
        go_wp2_with fail
        refine (V _).out.mono ?_
        rintro e w2 ⟨rfl, hB⟩
        have B2 : Hid (Below w.heap.size w w2) := B1.out.trans (hB.mono B1.out.size)
        have Q6 := own_belowP P6.out hB
        have Q7 := hide (own_belowP P7.out hB)
        have T2 : Hid (Blk w2 wo.heap.size 42 [.int .i64 kd, .int .i64 nn]) := (hB.block _ T1.out.lt).trans T1.out
        have wsz : w.heap.size ≤ w2.heap.size := B2.out.size
        clear V hB B1 P6 P7 T1 c0 c1
        generalize wo.heap.size = tb at *
        go_wp2_with (at_builtin; refine wpList_append_own _ rfl _ _ 22 rfl w.heap.size 3 i0 (.int .i64 0) 1 8 Try.underlying22 hi0 hz0 hz1 hz2 rfl (by decide) _ _ _ rfl (Q6.alloc _) ⟨w2.heap.size, 0, none⟩ 1 1 [.int .i64 (i : Int)] rfl rfl ?c1 ?c2 ?c3 ?c4 ?c5 ?_)
        case c1 =>
          intro j u hj
          match j, hj with
          | 0, hj => simp at hj; subst hj; simp [Addr.add]
        case c2 => intro u hu; simp at hu; subst hu; rfl
        case c3 => unfold maxLen; omega
        case c4 => omega
        case c5 => simp; omega
        intro v6' w3 hown hgrow hnil
        have Z7 : Hid (w3.ownsRow w.heap.size 69 5 v7 ri xs) := own_grownP (Q7.out.alloc _) (Q6.alloc _) hT1 hgrow
        have Z6 : Hid (w3.ownsRow w.heap.size 3 1 v6' ri1 ys) := by rw [EV.out.2.1, EV.out.1]; exact hown
        have ZT : Hid (Blk w3 tb 42 [.int .i64 kd, .int .i64 nn]) := blk_grownP (((Below.refl _ w2).alloc (Nat.le_refl _) _).block _ T2.out.lt |>.trans T2.out) (Q6.alloc _) hT3 hgrow
        have ZB : Hid (Below w.heap.size w w3) := below_appended (B2.out.alloc B2.out.size _) hgrow (own_lt Q6)
        clear hown hgrow hnil Q6 Q7 T2 B2 wsz
        obtain ⟨v6, hv6⟩ : ∃ v, v = v6' := ⟨_, rfl⟩
        rw [← hv6] at Z6 ⊢
        clear hv6
        go_wp2_with fail
        have JJ : Hid (∀ W', Below w.heap.size w W' → Blk W' tb 42 [.int .i64 kd, .int .i64 nn] → W'.cell? ⟨d, 2, none⟩ = some (.slice (some ⟨lb, 0, none⟩) n n) ∧ W'.cell? ⟨lb, i, none⟩ = some (.int .i64 li) ∧ W'.cell? ⟨tb, 1, none⟩ = some (.int .i64 nn)) := fun W' h1 h2 => ⟨(JD.out W' h1).1, (JD.out W' h1).2, h2.cell 1 rfl⟩
        have PRE : Hid (Below w.heap.size w w3.drew ∧ Blk w3.drew tb 42 [.int .i64 kd, .int .i64 nn] ∧ w3.drew.ownsRow w.heap.size 3 1 v6 ri1 ys ∧ w3.drew.ownsRow w.heap.size 69 5 v7 ri xs) := ⟨ZB.out.drew, ZT.out, Z6.out.drew, Z7.out.drew⟩
        clear ZB ZT Z6 Z7 JD
        refine MJ.wp_region_chain (fun W' => W'.cell? ⟨d, 2, none⟩ = some (.slice (some ⟨lb, 0, none⟩) n n) ∧ W'.cell? ⟨lb, i, none⟩ = some (.int .i64 li) ∧ W'.cell? ⟨tb, 1, none⟩ = some (.int .i64 nn)) [11, 12, 13] [(41, 11), (42, 12), (7, 13)] (stA (fun W' => (Below w.heap.size w W' ∧ Blk W' tb 42 [.int .i64 kd, .int .i64 nn] ∧ W'.ownsRow w.heap.size 3 1 v6 ri1 ys ∧ W'.ownsRow w.heap.size 69 5 v7 ri xs)) 69 [.int .i64 0, .int .i64 li, .int .i64 1048576, .int .i64 nn, .int .i64 0] (fun u W' => (Below w.heap.size w W' ∧ Blk W' tb 42 [.int .i64 kd, .int .i64 nn] ∧ W'.ownsRow w.heap.size 3 1 v6 ri1 ys ∧ W'.ownsRow w.heap.size 69 5 u ri1 xs1))) (by kernel_rfl) (by kernel_rfl) (by simp) ?h0 ?hJ ?_
        case h0 => exact PRE.out
        case hJ =>
          rintro vals W' _ hS'
          exact stA_J (J := fun W' => W'.cell? ⟨d, 2, none⟩ = some (.slice (some ⟨lb, 0, none⟩) n n) ∧ W'.cell? ⟨lb, i, none⟩ = some (.int .i64 li) ∧ W'.cell? ⟨tb, 1, none⟩ = some (.int .i64 nn)) (fun W h => JJ.out W h.1 h.2.1) (fun _ W h => JJ.out W h.1 h.2.1) vals W' hS'
        repeat (refine MJ.lex_calm rfl (by rfl) (fun K hK => ?_); apply Exists.intro; refine ⟨fun W' hW => ?_, ?_⟩; (dsimp only at hW; go_simp; exact rfl); go_simp; refine hK _ ?_; clear hK K)
        refine MJ.lex_chain 0 rfl (by kernel_rfl) rfl ?_ ?_
        · rintro vs W ⟨hB, hT, hO6, hO7⟩
          have FIN : Hid ((stA (fun W' => (Below w.heap.size w W' ∧ Blk W' tb 42 [.int .i64 kd, .int .i64 nn] ∧ W'.ownsRow w.heap.size 3 1 v6 ri1 ys ∧ W'.ownsRow w.heap.size 69 5 v7 ri xs)) 69 [.int .i64 0, .int .i64 li, .int .i64 1048576, .int .i64 nn, .int .i64 0] (fun u W' => (Below w.heap.size w W' ∧ Blk W' tb 42 [.int .i64 kd, .int .i64 nn] ∧ W'.ownsRow w.heap.size 3 1 v6 ri1 ys ∧ W'.ownsRow w.heap.size 69 5 u ri1 xs1))) (MJ.valsOf [11, 12, 13] vs 0 ++ [.slice (some ⟨W.heap.size, 0, none⟩) 1 1]) (W.alloc (.cells [.int .i64 0, .int .i64 li, .int .i64 1048576, .int .i64 nn, .int .i64 0].toArray 69))) := ⟨W.heap.size, rfl, Blk.new rfl, hB.alloc hB.size _, (((Below.refl _ W).alloc (Nat.le_refl _) _).block _ hT.lt).trans hT, hO6.alloc _, hO7.alloc _⟩
          clear hB hT hO6 hO7
          simp [go_sem, evS, List.lookup]
          exact FIN.out
        refine MJ.lex_chain 1 rfl (by kernel_rfl) rfl ?_ ?_
        · rintro vs W ⟨g, e, hb, hB, hT, hO6, hO7⟩
          replace e : vs 11 = .slice (some ⟨g, 0, none⟩) 1 1 := e
          refine does_append W _ _ 67 rfl w.heap.size 69 iX _ 5 40 Try.underlying67 x1 x2 x3 x4 rfl (by decide) v7 ri xs rfl hO7 ⟨g, 0, none⟩ 1 1 [.int .i64 0, .int .i64 li, .int .i64 1048576, .int .i64 nn, .int .i64 0] e (by decide) rfl ?c1 ?c2 ?c3 ?c4 ?c5 ?_
          case c1 =>
            intro j u hj
            rw [addr_add]
            exact hb.cell j hj
          case c2 => intro u hu; simp at hu; rcases hu with rfl | rfl | rfl | rfl | rfl <;> rfl
          case c3 => unfold maxLen; omega
          case c4 => omega
          case c5 => exact hB.size
          intro v' w' ho hgr hd
          exact ⟨below_appended hB hgr (own_lt hO7), blk_grownP hT hO7 hT4 hgr, own_grownP hO6 hO7 hT2 hgr, by rw [EV.out.2.2, EV.out.1]; exact ho⟩
        refine MJ.lex_chain 2 rfl (by kernel_rfl) rfl ?_ ?_
        · rintro vs W hA
          have y := hide hA
          clear hA
          simp [go_sem, evS, List.lookup]
          exact y.out
        refine MJ.lex_nil ?_
        rintro vs w5 ⟨h1, _, h6, h7⟩
        have B5 := hide h1
        have h7' : w5.ownsRow w.heap.size 69 5 (vs 13) ri1 xs1 := h7
        have h6' : w5.ownsRow w.heap.size 3 1 v6 ri1 ys := h6
        rw [BACK.out.2.2, BACK.out.1] at h7'
        rw [BACK.out.2.1, BACK.out.1] at h6'
        have O6 := hide h6'
        have O7 := hide h7'
        clear h1 h6 h7 h6' h7' PRE JJ EV BACK
        simp only [fillS, List.foldl_cons, List.foldl_nil]
        go_simp
        go_wp2_with fail
        go_roundg (n - i)
        case measure => omega
        case rel => exact ⟨i + 1, _, _, _, rfl, rfl, rfl, by go_num, by omega, by omega, EN, B5, O6, O7⟩
      · rw [decide_eq_false h2] at V zi
        have zi' : zf i = true := by rw [zi]; rfl
        obtain ⟨rfl, hC⟩ := HS.out (by omega)
        have EN : Hid (sj - s1 i = spJ sp zf s1 (i + 1)) := by
          show _ = _
          rw [spJ_next, zi', if_pos rfl, ES.out]
        obtain ⟨e1, e2⟩ := vi_same zi'
        have e3 := fl_sameP (fx := fx) zi'
        have R6 : Hid ((wo.alloc (.cells #[.int .i64 kd, .int .i64 nn] 42)).ownsRow w.heap.size 3 1 v6 (rk zf (i + 1)) (vals (rk zf (i + 1)) (fun k => ((selN zf (i + 1) k : Nat) : Int)))) := by rw [e2, e1]; exact P6.out
        have R7 : Hid ((wo.alloc (.cells #[.int .i64 kd, .int .i64 nn] 42)).ownsRow w.heap.size 69 5 v7 (rk zf (i + 1)) (flat (rk zf (i + 1)) 5 (fxC (fun k => fx (selN zf (i + 1) k))))) := by rw [e3, e1]; exact P7.out
        have HC := hide hC
        have sjb := SJ.out i (by omega)
        rw [← ES.out] at sjb
        obtain ⟨sj1, sj2⟩ := sjb
        obtain ⟨u1, u2⟩ := SB.out i hlt
        clear zi zi' e1 e2 e3 P6 P7 FX1 hC h2 ES
        have h2' : True := trivial
        go_wp2_with fail
        refine (V _).out.mono ?_
        rintro e w2 ⟨rfl, hB⟩
        have B2 : Hid (Below w.heap.size w w2) := B1.out.trans (hB.mono B1.out.size)
        have Q6 := hide (own_belowP R6.out hB)
        have Q7 := hide (own_belowP R7.out hB)
        have cs := (HC.out.below B2.out).cell hlt
        clear V hB B1 R6 R7 T1 c0 c1 HC
        generalize s1 i = si at *
        have wsi : IntKind.i64.wrap (sj - si) = sj - si := wr (by omega) (by omega)
        go_wp2_with fail
        go_roundg (n - i)
        case measure => omega
        case rel => exact ⟨i + 1, _, _, _, rfl, rfl, rfl, by go_num, by omega, by omega, EN, B2, Q6, Q7⟩
    · have hltz : ¬ (i : Int) < (n : Int) := by omega
      obtain rfl : n = i := by omega
      obtain ⟨pf, cf, rfl, hSR⟩ := own_srowG O7.out
      obtain ⟨pq, fb, cq, rfl, hfb, hFR⟩ := own_sz O6.out
      have rb := rk_le zf n
      have sjb := SJ.out n (by omega)
      rw [← ES.out] at sjb TRY
      obtain ⟨sj1, sj2⟩ := sjb
      have RS := hide (bResolve_ok (max sj 0) 0 pf (rk zf n) cf (fun k => fx (selN zf n k)) wo hSR (by omega) (by omega) (by omega) FOK.out)
      have KX : Hid (Kept sb w wo) := Kept.of BB.out
      have SX : Hid (0 < n → q = some ⟨sb, 0, none⟩ ∧ CRw wo sb n (fun j => if zf j = false ∧ rk zf j < 0 then tr j else s1 j)) := fun h => ⟨(HS.out h).1, ((HS.out h).2.below BB.out).congr fun j _ => by rw [if_neg (fun q => Nat.not_lt_zero _ q.2)]⟩
      have FR := hide hFR
      have SLT : Hid (0 < n → sb < w.heap.size) := fun h => (HS.out h).2.lt
      have WS : Hid (w.heap.size ≤ wo.heap.size ∧ w.heap.size ≤ fb) := ⟨BB.out.size, hfb⟩
      have RKN : Hid (∀ i, i < n → zf i = false → rk zf i < rk zf n) := fun i h1 h2 => rk_lt h1 h2
      have SEL : Hid (∀ k, k < rk zf n → selN zf n k < n ∧ zf (selN zf n k) = false ∧ rk zf (selN zf n k) = k) := fun k hk => selN_at hk
      have INJ : Hid (∀ i j, zf i = false → zf j = false → rk zf i = rk zf j → i = j) := fun i j h1 h2 h3 => rk_inj h1 h2 h3
      clear O6 O7 hSR hFR hfb BB HS HD FOK FXE SJ ES hi hgg hlt hltz SB LB hi0 hz0 hz1 hz2 x1 x2 x3 x4
      generalize resF (max sj 0) 0 (fun k => fx (selN zf n k)) (rk zf n) = RR at *
      generalize rk zf n = cn at *
      go_wp2_with fail
      refine RS.out.mono ?_
      rintro e w6 ⟨b2, rfl, hR6, hB6, hb2⟩
      have K6 : Hid (Kept sb w w6) := KX.out.then hB6
      have S6 : Hid (0 < n → q = some ⟨sb, 0, none⟩ ∧ CRw w6 sb n (fun j => if zf j = false ∧ rk zf j < 0 then tr j else s1 j)) := fun h => ⟨(SX.out h).1, (SX.out h).2.below hB6⟩
      have R6 : Hid (IRow w6 b2 cn RR) := hR6
      have F6 : Hid (0 < cn → pq = some ⟨fb, 0, none⟩ ∧ CRw w6 fb cn (fun k => ((selN zf n k : Nat) : Int))) := fun h => ⟨(FR.out h).1, (FR.out h).2.below hB6⟩
      have NE : Hid (0 < n → b2 ≠ sb ∧ fb ≠ sb) := fun h => by
        have a := SLT.out h
        have b := WS.out
        show _ ∧ _
        omega
      clear RS KX SX FR hR6 hB6 hb2 WS
      go_wp2_with fail
      go_loopg [59] (cn + 1) (fun g1 vk wr => ∃ k : Nat, vk = .int .i64 (k : Int) ∧ k ≤ cn ∧ cn - k < g1 ∧ Hid (Kept sb w wr) ∧ Hid (IRow wr b2 cn RR) ∧ Hid (0 < cn → pq = some ⟨fb, 0, none⟩ ∧ CRw wr fb cn (fun k => ((selN zf n k : Nat) : Int))) ∧ Hid (0 < n → q = some ⟨sb, 0, none⟩ ∧ CRw wr sb n (fun j => if zf j = false ∧ rk zf j < k then tr j else s1 j)))
      case atStart => exact ⟨0, by go_num, by omega, by omega, K6, R6, F6, S6⟩
      case round =>
        clear K6 R6 F6 S6
        obtain ⟨wq, rfl⟩ : ∃ wq : World, wq = wr := ⟨_, rfl⟩
        obtain ⟨k, rfl, hk, hg2, KK, PR, FF, SS⟩ := hrel
        by_cases hlk : k < cn
        · have hlkz : (k : Int) < (cn : Int) := by omega
          obtain ⟨s1', s2', s3'⟩ := SEL.out k hlk
          have hn0 : 0 < n := by omega
          obtain ⟨rfl, SR⟩ := SS.out hn0
          obtain ⟨rfl, FR⟩ := FF.out (by omega)
          obtain ⟨n1, n2⟩ := NE.out hn0
          have cp := PR.out.cell hlk
          have cf1 := FR.cell hlk
          have TE : Hid (RR k = tr (selN zf n k)) := by show _ = _; rw [TRY.out _ s2', s3']
          have ZJ : Hid (∀ j, zf j = false → rk zf j = k → j = selN zf n k) := fun j h1 h2 => INJ.out j _ h1 s2' (by rw [h2, s3'])
          have ZS : Hid (zf (selN zf n k) = false ∧ rk zf (selN zf n k) = k) := ⟨s2', s3'⟩
          obtain ⟨j0, hj0⟩ : ∃ j0, j0 = selN zf n k := ⟨_, rfl⟩
          rw [← hj0] at s1' TE ZJ ZS cf1
          have hj0z : (j0 : Int) < (n : Int) := by omega
          have cs := SR.cell s1'
          rw [if_neg (fun q => by rw [ZS.out.2] at q; exact Nat.lt_irrefl _ q.2)] at cs
          have fz := SR.frozen j0
          have NK : Hid (Kept sb w (wq.setCell ⟨sb, j0, none⟩ (.int .i64 (RR k)))) := KK.out.set _ _
          have NP : Hid (IRow (wq.setCell ⟨sb, j0, none⟩ (.int .i64 (RR k))) b2 cn RR) := PR.out.far n1 _
          have NF : Hid (CRw (wq.setCell ⟨sb, j0, none⟩ (.int .i64 (RR k))) fb cn (fun k => ((selN zf n k : Nat) : Int))) := FR.far n2 _
          have NS : Hid (CRw (wq.setCell ⟨sb, j0, none⟩ (.int .i64 (RR k))) sb n (fun j => if zf j = false ∧ rk zf j < k + 1 then tr j else s1 j)) := (SR.set_ j0 _).congr fun j _ => by
            by_cases q : j = j0
            · subst q; rw [if_pos rfl, if_pos ⟨ZS.out.1, by rw [ZS.out.2]; omega⟩, TE.out]
            · rw [if_neg q]
              by_cases q2 : zf j = false ∧ rk zf j < k
              · rw [if_pos q2, if_pos ⟨q2.1, by omega⟩]
              · rw [if_neg q2, if_neg (fun q3 => by
                  rcases Nat.lt_or_ge (rk zf j) k with l | l
                  · exact q2 ⟨q3.1, l⟩
                  · exact q (ZJ.out j q3.1 (by omega)))]
          clear KK PR FF SS SR FR TE ZJ ZS s2' s3' hj0
          generalize RR k = rv at *
          go_wp2_with fail
          go_roundg (cn - k)
          case measure => omega
          case rel => exact ⟨k + 1, by go_num, by omega, by omega, NK, NP, fun _ => ⟨by first | trivial | rfl, NF.out⟩, fun _ => ⟨by first | trivial | rfl, NS.out⟩⟩
        · have hlkz : ¬ (k : Int) < (cn : Int) := by omega
          obtain rfl : cn = k := by omega
          go_wp2_with fail
          go_end0
          refine ⟨rfl, fun h => (SS.out h).2.congr fun j hj => ?_, KK.out⟩
          by_cases q2 : zf j = false
          · rw [if_pos ⟨q2, RKN.out j hj q2⟩]
          · rw [if_neg (fun q3 => q2 q3.1)]
            exact (TRZ.out j (by simpa using q2)).symm
end Go.Proofs.Ytdoenkngmgclmaa
