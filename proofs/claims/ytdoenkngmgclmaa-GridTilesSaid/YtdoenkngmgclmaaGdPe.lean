/- The demands of package grid in their box; the least and the most sizes at first (fitSingle). -/
import Derived.Test.YtdoenkngmgclmaaGdPc
import Derived.Test.YtdoenkngmgclmaaGdR3
import Derived.BigQuiet
namespace Go.Proofs.Ytdoenkngmgclmaa
open Go.RowKit Go.Sort
set_option linter.unusedVariables false
set_option linter.unusedSimpArgs false

abbrev dmL (gap : Int) (p : Option Addr) (n c lb mb : Nat) : List Value := [.int .i64 gap, .slice p n c, .slice (some ⟨lb, 0, none⟩) n n, .slice (some ⟨mb, 0, none⟩) n n]
/-- The demand that lies at d: the gap, the tracks that came in, its two rows. -/
structure Dm (w0 w : World) (d lb mb : Nat) (gap : Int) (p : Option Addr) (n c : Nat) (t : Nat → Tk) (L M : Nat → Int) : Prop where
  blk : Blk w d 62 (dmL gap p n c lb mb)
  l : IRow w lb n L
  m : IRow w mb n M
  el : SRow w0 p n 2 (trC t)
  below : Below w0.heap.size w0 w
  hd : w0.heap.size ≤ d
  hl : w0.heap.size ≤ lb
  hm : w0.heap.size ≤ mb
  dl : d ≠ lb
  dm : d ≠ mb
  lm : lb ≠ mb
section
variable {w0 w w' : World} {d lb mb : Nat} {gap : Int} {p : Option Addr} {n c : Nat} {t : Nat → Tk} {L M L' M' : Nat → Int}
theorem Dm.grown (h : Dm w0 w d lb mb gap p n c t L M) (hb : Below w.heap.size w w') : Dm w0 w' d lb mb gap p n c t L M :=
  ⟨(hb.block d h.blk.lt).trans h.blk, h.l.below hb h.l.lt, h.m.below hb h.m.lt, h.el, h.below.trans (hb.mono h.below.size), h.hd, h.hl, h.hm, h.dl, h.dm, h.lm⟩
theorem Dm.alloc (h : Dm w0 w d lb mb gap p n c t L M) (o : Obj) : Dm w0 (w.alloc o) d lb mb gap p n c t L M := h.grown ((Below.refl _ _).alloc (Nat.le_refl _) o)
theorem Dm.drewN (h : Dm w0 w d lb mb gap p n c t L M) (k : Nat) : Dm w0 (w.drewN k) d lb mb gap p n c t L M :=
  ⟨h.blk, h.l, h.m, h.el, below_drewN h.below k, h.hd, h.hl, h.hm, h.dl, h.dm, h.lm⟩
theorem Dm.congr (h : Dm w0 w d lb mb gap p n c t L M) (h1 : ∀ j, j < n → L j = L' j) (h2 : ∀ j, j < n → M j = M' j) : Dm w0 w d lb mb gap p n c t L' M' :=
  ⟨h.blk, h.l.congr h1, h.m.congr h2, h.el, h.below, h.hd, h.hl, h.hm, h.dl, h.dm, h.lm⟩
theorem Dm.setl (h : Dm w0 w d lb mb gap p n c t L M) (k : Nat) (v : Int) : Dm w0 (w.setCell ⟨lb, k, none⟩ (.int .i64 v)) d lb mb gap p n c t (fun j => if j = k then v else L j) M :=
  ⟨h.blk.other h.dl _, h.l.set_ k v, h.m.far (Ne.symm h.lm) _, h.el, h.below.setCell h.hl _, h.hd, h.hl, h.hm, h.dl, h.dm, h.lm⟩
theorem Dm.setm (h : Dm w0 w d lb mb gap p n c t L M) (k : Nat) (v : Int) : Dm w0 (w.setCell ⟨mb, k, none⟩ (.int .i64 v)) d lb mb gap p n c t L (fun j => if j = k then v else M j) :=
  ⟨h.blk.other h.dm _, h.l.far h.lm _, h.m.set_ k v, h.el, h.below.setCell h.hm _, h.hd, h.hl, h.hm, h.dl, h.dm, h.lm⟩
theorem Dm.keptl (h : Dm w0 w d lb mb gap p n c t L M) (hr : IRow w' lb n L') (hk : Kept lb w w') : Dm w0 w' d lb mb gap p n c t L' M :=
  ⟨h.blk.kept hk h.dl, hr, h.m.kept hk (Ne.symm h.lm), h.el, h.below.trans (hk.below h.hl h.below.size), h.hd, h.hl, h.hm, h.dl, h.dm, h.lm⟩
theorem Dm.keptm (h : Dm w0 w d lb mb gap p n c t L M) (hr : IRow w' mb n M') (hk : Kept mb w w') : Dm w0 w' d lb mb gap p n c t L M' :=
  ⟨h.blk.kept hk h.dm, h.l.kept hk h.lm, hr, h.el, h.below.trans (hk.below h.hm h.below.size), h.hd, h.hl, h.hm, h.dl, h.dm, h.lm⟩
theorem Dm.lts (h : Dm w0 w d lb mb gap p n c t L M) : d < w.heap.size ∧ lb < w.heap.size ∧ mb < w.heap.size := ⟨h.blk.lt, h.l.lt, h.m.lt⟩
end
/-- The sizes behind k items. -/
def flG (t : Nat → Tk) (I : Nat → It) (f : Nat → Int) (k j : Nat) : Int := if (t j).kd = 0 then (t j).nn else mxK (oneB I j) f k
def fzG (t : Nat → Tk) (i j : Nat) : Int := if j < i then (if (t j).kd = 0 then (t j).nn else 0) else 0
def mmG (I : Nat → It) (k : Nat) : Int := max (I k).mn (I k).mx
section
variable {t : Nat → Tk} {I : Nat → It} {n : Nat}
theorem fz_yes {i : Nat} (h : (t i).kd = 0) (j : Nat) : (if j = i then (t i).nn else fzG t i j) = fzG t (i + 1) j := by
  unfold fzG
  by_cases h1 : j = i
  · subst h1; rw [if_pos rfl, if_pos (show j < j + 1 by omega), if_pos h]
  · by_cases h2 : j < i
    · rw [if_neg h1, if_pos h2, if_pos (show j < i + 1 by omega)]
    · rw [if_neg h1, if_neg h2, if_neg (show ¬ j < i + 1 by omega)]
theorem fz_no {i : Nat} (h : ¬ (t i).kd = 0) (j : Nat) : fzG t i j = fzG t (i + 1) j := by
  unfold fzG
  by_cases h1 : j = i
  · subst h1; rw [if_neg (show ¬ j < j by omega), if_pos (show j < j + 1 by omega), if_neg h]
  · by_cases h2 : j < i
    · rw [if_pos h2, if_pos (show j < i + 1 by omega)]
    · rw [if_neg h2, if_neg (show ¬ j < i + 1 by omega)]
theorem fl_yes {f : Nat → Int} {k a : Nat} (ha : (I k).at_ = (a : Int)) (h1 : (I k).sp = 1) (h0 : ¬ (t a).kd = 0) (j : Nat) : (if j = a then max (flG t I f k a) (f k) else flG t I f k j) = flG t I f (k + 1) j := by
  unfold flG
  simp only [mxK]
  by_cases hj : j = a
  · subst hj
    have ob : oneB I j k = true := by unfold oneB; rw [decide_eq_true h1, decide_eq_true ha]; rfl
    rw [if_pos rfl, if_neg h0, if_neg h0, ob, if_pos rfl]
  · have ob : oneB I j k = false := by unfold oneB; rw [ha, decide_eq_false (show ¬ (a : Int) = (j : Int) by omega), Bool.and_false]
    rw [if_neg hj, ob, if_neg Bool.false_ne_true]
theorem fl_no {f : Nat → Int} {k a : Nat} (ha : (I k).at_ = (a : Int)) (h : ¬ ((I k).sp = 1 ∧ ¬ (t a).kd = 0)) (j : Nat) : flG t I f k j = flG t I f (k + 1) j := by
  unfold flG
  simp only [mxK]
  by_cases hj : j = a ∧ (I k).sp = 1
  · obtain ⟨rfl, h1⟩ := hj
    have h0 : (t j).kd = 0 := Classical.byContradiction fun hn => h ⟨h1, hn⟩
    rw [if_pos h0, if_pos h0]
  · have ob : oneB I j k = false := by
      unfold oneB
      by_cases h1 : (I k).sp = 1
      · rw [ha, decide_eq_false (show ¬ (a : Int) = (j : Int) by intro e; exact hj ⟨by omega, h1⟩), Bool.and_false]
      · rw [decide_eq_false h1]; rfl
    rw [ob, if_neg Bool.false_ne_true]
theorem fl_ls (m i : Nat) : flG t I (fun k => (I k).mn) m i = ls0 t I m i := rfl
theorem fl_ms (m i : Nat) : flG t I (mmG I) m i = ms0 t I m i := by
  unfold flG ms0 ls0 mmG
  by_cases h : (t i).kd = 0
  · rw [if_pos h, if_pos h]
  · rw [if_neg h, if_neg h, if_neg h, mxK_max]
theorem fl_zero (n j : Nat) (f : Nat → Int) (hj : j < n) : fzG t n j = flG t I f 0 j := by
  unfold fzG flG
  rw [if_pos hj]
  rfl
end
theorem max3_any (ts : Array TypeId) (t : TypeId) (x y z : Int) (w : World) : (Builtin.max_ ts t #[.int .i64 x, .int .i64 y, .int .i64 z]).run Try.prog w = .ok (.int .i64 (max (max x y) z)) w := by
  have e : max (max x y) z = (if z > (if y > x then y else x) then z else (if y > x then y else x)) := by
    by_cases h1 : y > x
    · rw [if_pos h1]
      by_cases h2 : z > y
      · rw [if_pos h2]; omega
      · rw [if_neg h2]; omega
    · rw [if_neg h1]
      by_cases h2 : z > x
      · rw [if_pos h2]; omega
      · rw [if_neg h2]; omega
  rw [e]
  simp [Builtin.max_, Builtin.max2]
set_option maxHeartbeats 16000000 in
set_option maxRecDepth 100000 in
theorem fit_any (w0 w : World) (d lb mb : Nat) (gap : Int) (p q : Option Addr) (n c m dd : Nat) (t : Nat → Tk) (I : Nat → It) (D : Dm w0 w d lb mb gap p n c t (fun _ => 0) (fun _ => 0)) (hq : SRow w0 q m 4 (itC I)) (hn : n ≤ 24) (hm : m ≤ 100) (hI : ∀ k, k < m → okI n (I k)) :
    Calls Try.prog 43 #[.pointer (some ⟨d, 0, none⟩), .slice q m dd] w fun e w' => e = .returned (.tuple #[]) ∧ Dm w0 w' d lb mb gap p n c t (ls0 t I m) (ms0 t I m) := by
  have HQ := hide hq
  have HI := hide hI
  have HP := hide D.el
  have D0 : Hid (Dm w0 w d lb mb gap p n c t (fzG t 0) (fzG t 0)) := D.congr (fun j _ => by unfold fzG; simp) (fun j _ => by unfold fzG; simp)
  have NN : Hid (w0.heap.size ≤ d ∧ w0.heap.size ≤ lb ∧ w0.heap.size ≤ mb ∧ d ≠ lb ∧ d ≠ mb ∧ lb ≠ mb) := ⟨D.hd, D.hl, D.hm, D.dl, D.dm, D.lm⟩
  clear hq hI D
  have e1 := D0.out.blk.cell 1 rfl
  go_enter Try.func43, Try.ntmps43
  go_wp2_with fail
  clear e1
  go_loopg [13] (n + 1) (fun g1 vk wr => ∃ i : Nat, vk = .int .i64 (i : Int) ∧ i ≤ n ∧ n - i < g1 ∧ Hid (Dm w0 wr d lb mb gap p n c t (fzG t i) (fzG t i)))
  case atStart => exact ⟨0, by go_num, by omega, by omega, D0⟩
  case round =>
    clear D0
    obtain ⟨wo, rfl⟩ : ∃ wo : World, wo = wr := ⟨_, rfl⟩
    obtain ⟨i, rfl, hi, hgg, DD⟩ := hrel
    by_cases hlt : i < n
    · have hltz : (i : Int) < (n : Int) := by omega
      obtain ⟨b, off, rfl, hb, hc⟩ := (HP.out.below DD.out.below) (by omega)
      have c0 : wo.cell? ⟨b, off + i * 2, none⟩ = some (.int .i64 (t i).kd) := hc i hlt 0 (by decide)
      have c1 : wo.cell? ⟨b, off + i * 2 + 1, none⟩ = some (.int .i64 (t i).nn) := hc i hlt 1 (by decide)
      have YES : Hid ((t i).kd = 0 → ∀ j, (if j = i then (t i).nn else fzG t i j) = fzG t (i + 1) j) := fun h j => fz_yes h j
      have NO : Hid (¬ (t i).kd = 0 → ∀ j, fzG t i j = fzG t (i + 1) j) := fun h j => fz_no h j
      have FZ : Hid (fzG t i i = 0) := by show _ = _; unfold fzG; rw [if_neg (Nat.lt_irrefl _)]
      have DA := hide (fun o => DD.out.alloc o)
      have NX : Hid (wo.heap.size ≠ d ∧ wo.heap.size ≠ lb ∧ wo.heap.size ≠ mb) := ⟨Nat.ne_of_gt DD.out.lts.1, Nat.ne_of_gt DD.out.lts.2.1, Nat.ne_of_gt DD.out.lts.2.2⟩
      clear hc hb DD
      generalize (t i).kd = kd at *
      generalize (t i).nn = nn at *
      have D2 := hide (DA.out (.cells #[.int .i64 kd, .int .i64 nn] 42))
      have TB : Hid (Blk (wo.alloc (.cells #[.int .i64 kd, .int .i64 nn] 42)) wo.heap.size 42 [.int .i64 kd, .int .i64 nn]) := Blk.new rfl
      have t0 := TB.out.cell 0 rfl
      clear DA
      by_cases h0 : kd = 0
      · have d1 : (kd == 0) = true := by simpa using h0
        have N1 := hide (YES.out h0)
        clear YES NO h0
        go_wp2_with fail
        clear c0 c1 t0
        generalize wo.alloc (.cells #[.int .i64 kd, .int .i64 nn] 42) = w3 at *
        generalize wo.heap.size = tb at *
        have JQ : Hid (∀ W' L M, Dm w0 W' d lb mb gap (some ⟨b, off, none⟩) n c t L M → Blk W' tb 42 [.int .i64 kd, .int .i64 nn] → W'.cell? ⟨d, 2, none⟩ = some (.slice (some ⟨lb, 0, none⟩) n n) ∧ W'.cell? ⟨d, 3, none⟩ = some (.slice (some ⟨mb, 0, none⟩) n n) ∧ W'.cell? ⟨tb, 1, none⟩ = some (.int .i64 nn)) := fun W' L M h1 h2 => ⟨h1.blk.cell 2 rfl, h1.blk.cell 3 rfl, h2.cell 1 rfl⟩
        have PRE : Hid (Dm w0 w3.drew d lb mb gap (some ⟨b, off, none⟩) n c t (fzG t i) (fzG t i) ∧ Blk w3.drew tb 42 [.int .i64 kd, .int .i64 nn]) := ⟨D2.out.drewN 1, TB.out⟩
        have ST0 : Hid (∀ W', (Dm w0 W' d lb mb gap (some ⟨b, off, none⟩) n c t (fzG t i) (fzG t i) ∧ Blk W' tb 42 [.int .i64 kd, .int .i64 nn]) → W'.cell? ⟨lb, i, none⟩ = some (.int .i64 0) ∧ W'.frozen? ⟨lb, i, none⟩ = false ∧ (Dm w0 (W'.setCell ⟨lb, i, none⟩ (.int .i64 nn)) d lb mb gap (some ⟨b, off, none⟩) n c t (fzG t (i + 1)) (fzG t i) ∧ Blk (W'.setCell ⟨lb, i, none⟩ (.int .i64 nn)) tb 42 [.int .i64 kd, .int .i64 nn])) := fun W' ⟨h1, h2⟩ => ⟨by have := h1.l.cell hlt; rw [FZ.out] at this; exact this, h1.l.frozen _, (h1.setl i nn).congr (fun j _ => N1.out j) (fun _ _ => rfl), h2.other NX.out.2.1 _⟩
        have ST1 : Hid (∀ W', (Dm w0 W' d lb mb gap (some ⟨b, off, none⟩) n c t (fzG t (i + 1)) (fzG t i) ∧ Blk W' tb 42 [.int .i64 kd, .int .i64 nn]) → W'.cell? ⟨mb, i, none⟩ = some (.int .i64 0) ∧ W'.frozen? ⟨mb, i, none⟩ = false ∧ (Dm w0 (W'.setCell ⟨mb, i, none⟩ (.int .i64 nn)) d lb mb gap (some ⟨b, off, none⟩) n c t (fzG t (i + 1)) (fzG t (i + 1)) ∧ Blk (W'.setCell ⟨mb, i, none⟩ (.int .i64 nn)) tb 42 [.int .i64 kd, .int .i64 nn])) := fun W' ⟨h1, h2⟩ => ⟨by have := h1.m.cell hlt; rw [FZ.out] at this; exact this, h1.m.frozen _, (h1.setm i nn).congr (fun _ _ => rfl) (fun j _ => N1.out j), h2.other NX.out.2.2 _⟩
        clear D2 TB
        refine MJ.wp_region_chain (fun W' => W'.cell? ⟨d, 2, none⟩ = some (.slice (some ⟨lb, 0, none⟩) n n) ∧ W'.cell? ⟨d, 3, none⟩ = some (.slice (some ⟨mb, 0, none⟩) n n) ∧ W'.cell? ⟨tb, 1, none⟩ = some (.int .i64 nn)) [15, 17] [] (s2t (fun W' => (Dm w0 W' d lb mb gap (some ⟨b, off, none⟩) n c t (fzG t i) (fzG t i) ∧ Blk W' tb 42 [.int .i64 kd, .int .i64 nn])) (fun W' => (Dm w0 W' d lb mb gap (some ⟨b, off, none⟩) n c t (fzG t (i + 1)) (fzG t i) ∧ Blk W' tb 42 [.int .i64 kd, .int .i64 nn])) (fun W' => (Dm w0 W' d lb mb gap (some ⟨b, off, none⟩) n c t (fzG t (i + 1)) (fzG t (i + 1)) ∧ Blk W' tb 42 [.int .i64 kd, .int .i64 nn]))) (by kernel_rfl) (by kernel_rfl) (by simp) ?h0 ?hJ ?_
        case h0 => exact PRE.out
        case hJ =>
          rintro vals W' (hl | hl) hS'
          · exact s2t_J (J := fun W' => W'.cell? ⟨d, 2, none⟩ = some (.slice (some ⟨lb, 0, none⟩) n n) ∧ W'.cell? ⟨d, 3, none⟩ = some (.slice (some ⟨mb, 0, none⟩) n n) ∧ W'.cell? ⟨tb, 1, none⟩ = some (.int .i64 nn)) (fun W h => JQ.out W _ _ h.1 h.2) (fun W h => JQ.out W _ _ h.1 h.2) vals W' hl hS'
          · exact absurd hl (by rw [show MJ.sinkL _ _ = true by kernel_rfl]; exact Bool.noConfusion)
        repeat (refine MJ.lex_calm rfl (by rfl) (fun K hK => ?_); apply Exists.intro; refine ⟨fun W' hW => ?_, ?_⟩; (dsimp only at hW; go_simp; exact rfl); go_simp; refine hK _ ?_; clear hK K)
        refine MJ.lex_chain 0 rfl (by kernel_rfl) rfl ?_ ?_
        · rintro vs W' hS'
          obtain ⟨y1, y2, y3⟩ := ST0.out W' hS'
          have y3 := hide y3
          clear hS'
          simp [go_sem, evS, List.lookup, y1, y2]
          exact y3.out
        repeat (refine MJ.lex_calm rfl (by rfl) (fun K hK => ?_); apply Exists.intro; refine ⟨fun W' hW => ?_, ?_⟩; (dsimp only at hW; go_simp; exact rfl); go_simp; refine hK _ ?_; clear hK K)
        refine MJ.lex_chain 1 rfl (by kernel_rfl) rfl ?_ ?_
        · rintro vs W' hS'
          obtain ⟨y1, y2, y3⟩ := ST1.out W' hS'
          have y3 := hide y3
          clear hS'
          simp [go_sem, evS, List.lookup, y1, y2]
          exact y3.out
        refine MJ.lex_nil ?_
        rintro vs w5 s1
        have D5 := hide s1.1
        clear s1 ST0 ST1 PRE JQ
        simp only [fillS, List.foldl_nil]
        go_wp2_with fail
        go_roundg (n - i)
        case measure => omega
        case rel => exact ⟨i + 1, by go_num, by omega, by omega, D5⟩
      · have d1 : (kd == 0) = false := by simpa using h0
        have N1 := hide (NO.out h0)
        have D5 := hide (D2.out.congr (fun j _ => N1.out j) (fun j _ => N1.out j))
        clear YES NO h0 D2
        go_wp2_with fail
        go_roundg (n - i)
        case measure => omega
        case rel => exact ⟨i + 1, by go_num, by omega, by omega, D5⟩
    · have hltz : ¬ (i : Int) < (n : Int) := by omega
      obtain rfl : n = i := by omega
      have D6 : Hid (Dm w0 wo d lb mb gap p n c t (flG t I (fun k => (I k).mn) 0) (flG t I (mmG I) 0)) := DD.out.congr (fun j hj => fl_zero n j _ hj) (fun j hj => fl_zero n j _ hj)
      clear DD
      go_wp2_with fail
      go_loopg [40] (m + 1) (fun g1 vk wr => ∃ k : Nat, vk = .int .i64 (k : Int) ∧ k ≤ m ∧ m - k < g1 ∧ Hid (Dm w0 wr d lb mb gap p n c t (flG t I (fun k => (I k).mn) k) (flG t I (mmG I) k)))
      case atStart => exact ⟨0, by go_num, by omega, by omega, D6⟩
      case round =>
        clear D6
        obtain ⟨wq, rfl⟩ : ∃ wq : World, wq = wr := ⟨_, rfl⟩
        obtain ⟨k, rfl, hk, hg2, DD⟩ := hrel
        by_cases hlk : k < m
        · have hlkz : (k : Int) < (m : Int) := by omega
          obtain ⟨b, off, rfl, hb, hc⟩ := (HQ.out.below DD.out.below) (by omega)
          have c0 : wq.cell? ⟨b, off + k * 4, none⟩ = some (.int .i64 (I k).at_) := hc k hlk 0 (by decide)
          have c1 : wq.cell? ⟨b, off + k * 4 + 1, none⟩ = some (.int .i64 (I k).sp) := hc k hlk 1 (by decide)
          have c2 : wq.cell? ⟨b, off + k * 4 + 2, none⟩ = some (.int .i64 (I k).mn) := hc k hlk 2 (by decide)
          have c3 : wq.cell? ⟨b, off + k * 4 + 3, none⟩ = some (.int .i64 (I k).mx) := hc k hlk 3 (by decide)
          obtain ⟨ea, _, hap, hp1⟩ := aG_eq (HI.out k hlk)
          have han : aG (I k) < n := by omega
          have YES : Hid ((I k).sp = 1 → ¬ (t (aG (I k))).kd = 0 → ∀ f j, (if j = aG (I k) then max (flG t I f k (aG (I k))) (f k) else flG t I f k j) = flG t I f (k + 1) j) := fun h1 h0 f j => fl_yes ea.symm h1 h0 j
          have NO : Hid (¬ ((I k).sp = 1 ∧ ¬ (t (aG (I k))).kd = 0) → ∀ f j, flG t I f k j = flG t I f (k + 1) j) := fun h f j => fl_no ea.symm h j
          have ME : Hid (mmG I k = max (I k).mn (I k).mx) := rfl
          have MF : Hid ((fun k => (I k).mn) k = (I k).mn) := rfl
          have DA := hide (fun o => DD.out.alloc o)
          have NX : Hid (wq.heap.size ≠ d ∧ wq.heap.size ≠ lb ∧ wq.heap.size ≠ mb) := ⟨Nat.ne_of_gt DD.out.lts.1, Nat.ne_of_gt DD.out.lts.2.1, Nat.ne_of_gt DD.out.lts.2.2⟩
          clear hc hb DD hap hp1
          rw [← ea] at c0
          clear ea
          generalize aG (I k) = a at *
          generalize (I k).sp = sp at *
          generalize hmn : (I k).mn = mn at *
          generalize hmx : (I k).mx = mx at *
          clear hmn hmx
          have D2 := hide (DA.out (.cells #[.int .i64 (a : Int), .int .i64 sp, .int .i64 mn, .int .i64 mx] 44))
          have XB : Hid (Blk (wq.alloc (.cells #[.int .i64 (a : Int), .int .i64 sp, .int .i64 mn, .int .i64 mx] 44)) wq.heap.size 44 [.int .i64 (a : Int), .int .i64 sp, .int .i64 mn, .int .i64 mx]) := Blk.new rfl
          clear DA
          have hat0 : (0 : Int) ≤ (a : Int) := by omega
          have hat1 : (a : Int) < (n : Int) := by omega
          by_cases h1 : sp = 1
          case neg =>
            have d1 : (sp == 1) = false := by simpa using h1
            have N1 := hide (NO.out fun h => h1 h.1)
            have t1 := XB.out.cell 1 rfl
            clear YES NO h1
            go_wp2_with fail
            clear c0 c1 c2 c3
            generalize wq.alloc (.cells #[.int .i64 (a : Int), .int .i64 sp, .int .i64 mn, .int .i64 mx] 44) = w3 at *
            generalize wq.heap.size = xb at *
            go_quiet (fail)
            have D5 := hide ((D2.out.drewN nq).congr (fun j _ => N1.out _ j) (fun j _ => N1.out _ j))
            clear D2 XB
            generalize w3.drewN nq = w5 at *
            go_wp2_with fail
            go_roundg (m - k)
            case measure => omega
            case rel => exact ⟨k + 1, by go_num, by omega, by omega, D5⟩
          have d1 : (sp == 1) = true := by simpa using h1
          obtain ⟨tb, toff, rfl, htb, htc⟩ := (HP.out.below D2.out.below) (by omega)
          have u0 : (wq.alloc (.cells #[.int .i64 (a : Int), .int .i64 sp, .int .i64 mn, .int .i64 mx] 44)).cell? ⟨tb, toff + a * 2, none⟩ = some (.int .i64 (t a).kd) := htc a han 0 (by decide)
          clear htc htb
          generalize (t a).kd = kd at *
          have t0 := XB.out.cell 0 rfl
          have t1 := XB.out.cell 1 rfl
          have s1 := D2.out.blk.cell 1 rfl
          by_cases h0 : kd = 0
          case pos =>
            have d2 : (kd != 0) = false := by simpa using h0
            have N1 := hide (NO.out fun h => h.2 h0)
            clear YES NO h1 h0
            go_wp2_with fail
            clear c0 c1 c2 c3
            generalize wq.alloc (.cells #[.int .i64 (a : Int), .int .i64 sp, .int .i64 mn, .int .i64 mx] 44) = w3 at *
            generalize wq.heap.size = xb at *
            go_quiet (fail)
            have D5 := hide ((D2.out.drewN nq).congr (fun j _ => N1.out _ j) (fun j _ => N1.out _ j))
            clear D2 XB t0 t1 s1 u0
            generalize w3.drewN nq = w5 at *
            go_wp2_with fail
            go_roundg (m - k)
            case measure => omega
            case rel => exact ⟨k + 1, by go_num, by omega, by omega, D5⟩
          have d2 : (kd != 0) = true := by simpa using h0
          have N1 := hide (YES.out h1 h0)
          clear YES NO h1 h0
          go_wp2_with fail
          clear c0 c1 c2 c3
          generalize wq.alloc (.cells #[.int .i64 (a : Int), .int .i64 sp, .int .i64 mn, .int .i64 mx] 44) = w3 at *
          generalize wq.heap.size = xb at *
          go_quiet (fail)
          have D5 := hide (D2.out.drewN nq)
          have X5 : Hid (Blk (w3.drewN nq) xb 44 [.int .i64 (a : Int), .int .i64 sp, .int .i64 mn, .int .i64 mx]) := XB.out
          clear D2 XB t0 t1 s1 u0 d1 d2
          generalize w3.drewN nq = w5 at *
          go_wp2_with fail
          obtain ⟨l0, hl0⟩ : ∃ l0, l0 = flG t I (fun k => (I k).mn) k a := ⟨_, rfl⟩
          obtain ⟨m0, hm0⟩ : ∃ m0, m0 = flG t I (mmG I) k a := ⟨_, rfl⟩
          have NL : Hid (∀ j, (if j = a then max l0 mn else flG t I (fun k => (I k).mn) k j) = flG t I (fun k => (I k).mn) (k + 1) j) := fun j => by have := N1.out (fun k => (I k).mn) j; rw [MF.out, ← hl0] at this; exact this
          have NM : Hid (∀ j, (if j = a then max m0 (max mn mx) else flG t I (mmG I) k j) = flG t I (mmG I) (k + 1) j) := fun j => by have := N1.out (mmG I) j; rw [ME.out, ← hm0] at this; exact this
          have JQ : Hid (∀ W' M, Dm w0 W' d lb mb gap (some ⟨tb, toff, none⟩) n c t (flG t I (fun k => (I k).mn) k) M → Blk W' xb 44 [.int .i64 (a : Int), .int .i64 sp, .int .i64 mn, .int .i64 mx] → W'.cell? ⟨d, 2, none⟩ = some (.slice (some ⟨lb, 0, none⟩) n n) ∧ W'.cell? ⟨xb, 0, none⟩ = some (.int .i64 (a : Int)) ∧ W'.cell? ⟨xb, 2, none⟩ = some (.int .i64 mn) ∧ W'.cell? ⟨lb, a, none⟩ = some (.int .i64 l0)) := fun W' M h1 h2 => ⟨h1.blk.cell 2 rfl, h2.cell 0 rfl, h2.cell 2 rfl, hl0 ▸ h1.l.cell han⟩
          have JR : Hid (∀ W' L, Dm w0 W' d lb mb gap (some ⟨tb, toff, none⟩) n c t L (flG t I (mmG I) k) → Blk W' xb 44 [.int .i64 (a : Int), .int .i64 sp, .int .i64 mn, .int .i64 mx] → W'.cell? ⟨d, 3, none⟩ = some (.slice (some ⟨mb, 0, none⟩) n n) ∧ W'.cell? ⟨xb, 0, none⟩ = some (.int .i64 (a : Int)) ∧ W'.cell? ⟨xb, 2, none⟩ = some (.int .i64 mn) ∧ W'.cell? ⟨xb, 3, none⟩ = some (.int .i64 mx) ∧ W'.cell? ⟨mb, a, none⟩ = some (.int .i64 m0)) := fun W' L h1 h2 => ⟨h1.blk.cell 3 rfl, h2.cell 0 rfl, h2.cell 2 rfl, h2.cell 3 rfl, hm0 ▸ h1.m.cell han⟩
          have PRE : Hid (Dm w0 w5.drew d lb mb gap (some ⟨tb, toff, none⟩) n c t (flG t I (fun k => (I k).mn) k) (flG t I (mmG I) k) ∧ Blk w5.drew xb 44 [.int .i64 (a : Int), .int .i64 sp, .int .i64 mn, .int .i64 mx]) := ⟨D5.out.drewN 1, X5.out⟩
          have ST0 : Hid (∀ W', (Dm w0 W' d lb mb gap (some ⟨tb, toff, none⟩) n c t (flG t I (fun k => (I k).mn) k) (flG t I (mmG I) k) ∧ Blk W' xb 44 [.int .i64 (a : Int), .int .i64 sp, .int .i64 mn, .int .i64 mx]) → W'.cell? ⟨lb, a, none⟩ = some (.int .i64 l0) ∧ W'.frozen? ⟨lb, a, none⟩ = false ∧ (Dm w0 (W'.setCell ⟨lb, a, none⟩ (.int .i64 (max l0 mn))) d lb mb gap (some ⟨tb, toff, none⟩) n c t (flG t I (fun k => (I k).mn) (k + 1)) (flG t I (mmG I) k) ∧ Blk (W'.setCell ⟨lb, a, none⟩ (.int .i64 (max l0 mn))) xb 44 [.int .i64 (a : Int), .int .i64 sp, .int .i64 mn, .int .i64 mx])) := fun W' ⟨h1, h2⟩ => ⟨hl0 ▸ h1.l.cell han, h1.l.frozen _, (h1.setl a _).congr (fun j _ => NL.out j) (fun _ _ => rfl), h2.other NX.out.2.1 _⟩
          have ST1 : Hid (∀ W', (Dm w0 W' d lb mb gap (some ⟨tb, toff, none⟩) n c t (flG t I (fun k => (I k).mn) (k + 1)) (flG t I (mmG I) k) ∧ Blk W' xb 44 [.int .i64 (a : Int), .int .i64 sp, .int .i64 mn, .int .i64 mx]) → W'.cell? ⟨mb, a, none⟩ = some (.int .i64 m0) ∧ W'.frozen? ⟨mb, a, none⟩ = false ∧ (Dm w0 (W'.setCell ⟨mb, a, none⟩ (.int .i64 (max m0 (max mn mx)))) d lb mb gap (some ⟨tb, toff, none⟩) n c t (flG t I (fun k => (I k).mn) (k + 1)) (flG t I (mmG I) (k + 1)) ∧ Blk (W'.setCell ⟨mb, a, none⟩ (.int .i64 (max m0 (max mn mx)))) xb 44 [.int .i64 (a : Int), .int .i64 sp, .int .i64 mn, .int .i64 mx])) := fun W' ⟨h1, h2⟩ => ⟨hm0 ▸ h1.m.cell han, h1.m.frozen _, (h1.setm a _).congr (fun _ _ => rfl) (fun j _ => NM.out j), h2.other NX.out.2.2 _⟩
          clear D5 X5 N1 ME MF NL NM hl0 hm0
          refine MJ.wp_region_chain (fun W' => W'.cell? ⟨d, 2, none⟩ = some (.slice (some ⟨lb, 0, none⟩) n n) ∧ W'.cell? ⟨xb, 0, none⟩ = some (.int .i64 (a : Int)) ∧ W'.cell? ⟨xb, 2, none⟩ = some (.int .i64 mn) ∧ W'.cell? ⟨lb, a, none⟩ = some (.int .i64 l0)) [18] [] (s1t (fun W' => (Dm w0 W' d lb mb gap (some ⟨tb, toff, none⟩) n c t (flG t I (fun k => (I k).mn) k) (flG t I (mmG I) k) ∧ Blk W' xb 44 [.int .i64 (a : Int), .int .i64 sp, .int .i64 mn, .int .i64 mx])) (fun W' => (Dm w0 W' d lb mb gap (some ⟨tb, toff, none⟩) n c t (flG t I (fun k => (I k).mn) (k + 1)) (flG t I (mmG I) k) ∧ Blk W' xb 44 [.int .i64 (a : Int), .int .i64 sp, .int .i64 mn, .int .i64 mx]))) (by kernel_rfl) (by kernel_rfl) (by simp) ?h0 ?hJ ?_
          case h0 => exact PRE.out
          case hJ =>
            rintro vals W' (hl | hl) hS'
            · exact s1t_J (J := fun W' => W'.cell? ⟨d, 2, none⟩ = some (.slice (some ⟨lb, 0, none⟩) n n) ∧ W'.cell? ⟨xb, 0, none⟩ = some (.int .i64 (a : Int)) ∧ W'.cell? ⟨xb, 2, none⟩ = some (.int .i64 mn) ∧ W'.cell? ⟨lb, a, none⟩ = some (.int .i64 l0)) (fun W h => JQ.out W _ h.1 h.2) vals W' hl hS'
            · exact absurd hl (by rw [show MJ.sinkL _ _ = true by kernel_rfl]; exact Bool.noConfusion)
          repeat (refine MJ.lex_calm rfl (by rfl) (fun K hK => ?_); apply Exists.intro; refine ⟨fun W' hW => ?_, ?_⟩; (dsimp only at hW; go_simp; exact rfl); go_simp; refine hK _ ?_; clear hK K)
          refine MJ.lex_chain 0 rfl (by kernel_rfl) rfl ?_ ?_
          · rintro vs W' hS'
            obtain ⟨y1, y2, y3⟩ := ST0.out W' hS'
            have y3 := hide y3
            clear hS'
            simp [go_sem, evS, List.lookup, y1, y2]
            exact y3.out
          refine MJ.lex_nil ?_
          rintro vs w6 s1
          have D6 := hide s1.1
          have X6 := hide s1.2
          clear s1 ST0 PRE JQ
          simp only [fillS, List.foldl_nil]
          go_wp2_with fail
          have PRE : Hid (Dm w0 w6.drew d lb mb gap (some ⟨tb, toff, none⟩) n c t (flG t I (fun k => (I k).mn) (k + 1)) (flG t I (mmG I) k) ∧ Blk w6.drew xb 44 [.int .i64 (a : Int), .int .i64 sp, .int .i64 mn, .int .i64 mx]) := ⟨D6.out.drewN 1, X6.out⟩
          clear D6 X6
          have mx3 := fun (ts : Array TypeId) (ty : TypeId) (x y z : Int) (W' : World) => max3_any ts ty x y z W'
          refine MJ.wp_region_chain (fun W' => W'.cell? ⟨d, 3, none⟩ = some (.slice (some ⟨mb, 0, none⟩) n n) ∧ W'.cell? ⟨xb, 0, none⟩ = some (.int .i64 (a : Int)) ∧ W'.cell? ⟨xb, 2, none⟩ = some (.int .i64 mn) ∧ W'.cell? ⟨xb, 3, none⟩ = some (.int .i64 mx) ∧ W'.cell? ⟨mb, a, none⟩ = some (.int .i64 m0)) [20] [] (s1t (fun W' => (Dm w0 W' d lb mb gap (some ⟨tb, toff, none⟩) n c t (flG t I (fun k => (I k).mn) (k + 1)) (flG t I (mmG I) k) ∧ Blk W' xb 44 [.int .i64 (a : Int), .int .i64 sp, .int .i64 mn, .int .i64 mx])) (fun W' => (Dm w0 W' d lb mb gap (some ⟨tb, toff, none⟩) n c t (flG t I (fun k => (I k).mn) (k + 1)) (flG t I (mmG I) (k + 1)) ∧ Blk W' xb 44 [.int .i64 (a : Int), .int .i64 sp, .int .i64 mn, .int .i64 mx]))) (by kernel_rfl) (by kernel_rfl) (by simp) ?h0 ?hJ ?_
          case h0 => exact PRE.out
          case hJ =>
            rintro vals W' (hl | hl) hS'
            · exact s1t_J (J := fun W' => W'.cell? ⟨d, 3, none⟩ = some (.slice (some ⟨mb, 0, none⟩) n n) ∧ W'.cell? ⟨xb, 0, none⟩ = some (.int .i64 (a : Int)) ∧ W'.cell? ⟨xb, 2, none⟩ = some (.int .i64 mn) ∧ W'.cell? ⟨xb, 3, none⟩ = some (.int .i64 mx) ∧ W'.cell? ⟨mb, a, none⟩ = some (.int .i64 m0)) (fun W h => JR.out W _ h.1 h.2) vals W' hl hS'
            · exact absurd hl (by rw [show MJ.sinkL _ _ = true by kernel_rfl]; exact Bool.noConfusion)
          repeat (refine MJ.lex_calm rfl (by rfl) (fun K hK => ?_); apply Exists.intro; refine ⟨fun W' hW => ?_, ?_⟩; (dsimp only at hW; go_simp; exact rfl); go_simp; refine hK _ ?_; clear hK K)
          refine MJ.lex_chain 0 rfl (by kernel_rfl) rfl ?_ ?_
          · rintro vs W' hS'
            obtain ⟨y1, y2, y3⟩ := ST1.out W' hS'
            have y3 := hide y3
            clear hS'
            simp [go_sem, evS, List.lookup, y1, y2]
            exact y3.out
          refine MJ.lex_nil ?_
          rintro vs w7 s1
          have D7 := hide s1.1
          clear s1 ST1 PRE JR mx3
          simp only [fillS, List.foldl_nil]
          go_wp2_with fail
          go_roundg (m - k)
          case measure => omega
          case rel => exact ⟨k + 1, by go_num, by omega, by omega, D7⟩
        · have hlkz : ¬ (k : Int) < (m : Int) := by omega
          obtain rfl : m = k := by omega
          go_wp2_with fail
          go_end0
          exact ⟨rfl, DD.out.congr (fun j _ => fl_ls m j) (fun j _ => fl_ms m j)⟩
end Go.Proofs.Ytdoenkngmgclmaa
/- What newDemand of package grid returns: the least and the most sizes of the tracks; all numbers in range. -/
namespace Go.Proofs.Ytdoenkngmgclmaa
open Go.RowKit Go.Sort
set_option linter.unusedVariables false
set_option linter.unusedSimpArgs false

/-! ### The literal: two rows, a value, a box, in whatever order the two rows are made -/
def dmT (w : World) (n : Nat) (W : World) (lb mb : Nat) : Prop := w.heap.size ≤ lb ∧ w.heap.size ≤ mb ∧ lb ≠ mb ∧ IRow W lb n (fun _ => 0) ∧ IRow W mb n (fun _ => 0)
def dmB (w : World) (n : Nat) (gap : Int) (p : Option Addr) (c : Nat) (v : Value) (W : World) : Prop :=
  ∃ d lb mb, v = .pointer (some ⟨d, 0, none⟩) ∧ w.heap.size ≤ d ∧ d ≠ lb ∧ d ≠ mb ∧ Blk W d 62 (dmL gap p n c lb mb) ∧ dmT w n W lb mb
structure dmM (w : World) (n : Nat) (gap : Int) (p : Option Addr) (c : Nat) (D : Nat → Bool) (vs : Nat → Value) (W : World) : Prop where
  m0 : Below w.heap.size w W
  m4 : D 4 = true → ∃ b, vs 4 = .slice (some ⟨b, 0, none⟩) n n ∧ w.heap.size ≤ b ∧ IRow W b n (fun _ => 0) ∧ (D 7 = true → ∀ b', vs 7 = .slice (some ⟨b', 0, none⟩) n n → b ≠ b')
  m7 : D 7 = true → ∃ b, vs 7 = .slice (some ⟨b, 0, none⟩) n n ∧ w.heap.size ≤ b ∧ IRow W b n (fun _ => 0)
  m8 : D 8 = true → ∃ lb mb, vs 8 = .agg (dmL gap p n c lb mb).toArray ∧ dmT w n W lb mb
  m9 : D 9 = true → dmB w n gap p c (vs 9) W
  m10 : D 10 = true → dmB w n gap p c (vs 10) W
section
variable {w W W' : World} {n : Nat} {gap : Int} {p : Option Addr} {c : Nat} {D D' : Nat → Bool} {vs vs' : Nat → Value}
theorem dmT.grow {lb mb : Nat} (h : dmT w n W lb mb) (hb : Below W.heap.size W W') : dmT w n W' lb mb := ⟨h.1, h.2.1, h.2.2.1, h.2.2.2.1.below hb h.2.2.2.1.lt, h.2.2.2.2.below hb h.2.2.2.2.lt⟩
theorem dmB.grow {v : Value} (h : dmB w n gap p c v W) (hb : Below W.heap.size W W') : dmB w n gap p c v W' := by
  obtain ⟨d, wb, sb, h1, h2, h3, h4, h5, h6⟩ := h
  exact ⟨d, wb, sb, h1, h2, h3, h4, (hb.block d h5.lt).trans h5, h6.grow hb⟩
theorem dmM.ext (h : dmM w n gap p c D vs W) (hD : ∀ b ∈ [4, 7, 8, 9, 10], D b = D' b ∧ (D b = true → vs b = vs' b)) : dmM w n gap p c D' vs' W := by
  obtain ⟨a4, b4⟩ := hD 4 (by simp)
  obtain ⟨a7, b7⟩ := hD 7 (by simp)
  obtain ⟨a8, b8⟩ := hD 8 (by simp)
  obtain ⟨a9, b9⟩ := hD 9 (by simp)
  obtain ⟨a10, b10⟩ := hD 10 (by simp)
  refine ⟨h.m0, fun hd => ?_, fun hd => ?_, fun hd => ?_, fun hd => ?_, fun hd => ?_⟩
  · rw [← a4] at hd
    obtain ⟨b, e, h1, h2, h3⟩ := h.m4 hd
    refine ⟨b, by rw [← b4 hd]; exact e, h1, h2, fun hd6 b' e' => ?_⟩
    rw [← a7] at hd6
    exact h3 hd6 b' (by rw [b7 hd6]; exact e')
  · rw [← a7] at hd
    rw [← b7 hd]; exact h.m7 hd
  · rw [← a8] at hd
    rw [← b8 hd]; exact h.m8 hd
  · rw [← a9] at hd
    rw [← b9 hd]; exact h.m9 hd
  · rw [← a10] at hd
    rw [← b10 hd]; exact h.m10 hd
theorem dmM.grow (h : dmM w n gap p c D vs W) (hb : Below W.heap.size W W') : dmM w n gap p c D vs W' :=
  ⟨h.m0.trans (hb.mono h.m0.size), fun hd => by obtain ⟨b, e, h1, h2, h3⟩ := h.m4 hd; exact ⟨b, e, h1, h2.below hb h2.lt, h3⟩, fun hd => by obtain ⟨b, e, h1, h2⟩ := h.m7 hd; exact ⟨b, e, h1, h2.below hb h2.lt⟩,
    fun hd => by obtain ⟨wb, sb, e, h1⟩ := h.m8 hd; exact ⟨wb, sb, e, h1.grow hb⟩, fun hd => (h.m9 hd).grow hb, fun hd => (h.m10 hd).grow hb⟩
theorem dmM.op4 (h : dmM w n gap p c D vs W) : dmM w n gap p c (upd D 4 true) (upd vs 4 (.slice (some ⟨W.heap.size, 0, none⟩) n n)) (W.alloc (.cells (ints n (fun _ => 0)) 3)) := by
  have g := h.grow ((Below.refl W.heap.size W).alloc (Nat.le_refl _) (.cells (ints n (fun _ => 0)) 3))
  refine ⟨g.m0, fun _ => ⟨W.heap.size, rfl, h.m0.size, IRow.new W n _, fun hd6 b' e' => ?_⟩, fun hd => g.m7 hd, fun hd => g.m8 hd, fun hd => g.m9 hd, fun hd => g.m10 hd⟩
  obtain ⟨b, e, _, hr⟩ := h.m7 hd6
  have : b' = b := by
    have e2 : vs 7 = .slice (some ⟨b', 0, none⟩) n n := e'
    rw [e] at e2
    simp at e2
    exact e2.symm
  rw [this]
  exact Nat.ne_of_gt hr.lt
theorem dmM.op7 (h : dmM w n gap p c D vs W) : dmM w n gap p c (upd D 7 true) (upd vs 7 (.slice (some ⟨W.heap.size, 0, none⟩) n n)) (W.alloc (.cells (ints n (fun _ => 0)) 3)) := by
  have hB := (Below.refl W.heap.size W).alloc (Nat.le_refl _) (.cells (ints n (fun _ => 0)) 3)
  have g := h.grow hB
  refine ⟨g.m0, fun hd => ?_, fun _ => ⟨W.heap.size, rfl, h.m0.size, IRow.new W n _⟩, fun hd => g.m8 hd, fun hd => g.m9 hd, fun hd => g.m10 hd⟩
  obtain ⟨b4, e, h1, h2, _⟩ := h.m4 hd
  refine ⟨b4, e, h1, h2.below hB h2.lt, fun _ b' e' => ?_⟩
  have e2 : Value.slice (some ⟨W.heap.size, 0, none⟩) n n = .slice (some ⟨b', 0, none⟩) n n := e'
  simp at e2
  have := h2.lt
  omega
theorem dmM.op8 (h : dmM w n gap p c D vs W) (h4 : D 4 = true) (h7 : D 7 = true) : ∃ lb mb, vs 4 = .slice (some ⟨lb, 0, none⟩) n n ∧ vs 7 = .slice (some ⟨mb, 0, none⟩) n n ∧ dmM w n gap p c (upd D 8 true) (upd vs 8 (.agg (dmL gap p n c lb mb).toArray)) W := by
  obtain ⟨wb, e1, a1, a2, a3⟩ := h.m4 h4
  obtain ⟨sb, e2, a4, a5⟩ := h.m7 h7
  exact ⟨wb, sb, e1, e2, h.m0, fun hd => h.m4 hd, fun hd => h.m7 hd, fun _ => ⟨wb, sb, rfl, a1, a4, a3 h7 sb e2, a2, a5⟩, fun hd => h.m9 hd, fun hd => h.m10 hd⟩
theorem dmM.op9 (h : dmM w n gap p c D vs W) (h8 : D 8 = true) : ∃ lb mb, vs 8 = .agg (dmL gap p n c lb mb).toArray ∧ dmM w n gap p c (upd D 9 true) (upd vs 9 (.pointer (some ⟨W.heap.size, 0, none⟩))) (W.alloc (.cells (dmL gap p n c lb mb).toArray 62)) := by
  obtain ⟨wb, sb, e1, a⟩ := h.m8 h8
  have hB := (Below.refl W.heap.size W).alloc (Nat.le_refl _) (.cells (dmL gap p n c wb sb).toArray 62)
  have g := h.grow hB
  exact ⟨wb, sb, e1, g.m0, fun hd => g.m4 hd, fun hd => g.m7 hd, fun hd => g.m8 hd, fun _ => ⟨W.heap.size, wb, sb, rfl, h.m0.size, Nat.ne_of_gt a.2.2.2.1.lt, Nat.ne_of_gt a.2.2.2.2.lt, Blk.new rfl, a.grow hB⟩, fun hd => g.m10 hd⟩
theorem dmM.op10 (h : dmM w n gap p c D vs W) (h9 : D 9 = true) : dmM w n gap p c (upd D 10 true) (upd vs 10 (vs 9)) W :=
  ⟨h.m0, fun hd => h.m4 hd, fun hd => h.m7 hd, fun hd => h.m8 hd, fun hd => h.m9 hd, fun _ => h.m9 h9⟩
end
noncomputable def aLs (t : Nat → Tk) (gap : Int) (I : Nat → It) (n m k : Nat) : Nat → Int := addG t gap I n (fun k => (I k).mn) (ls0 t I m) k
noncomputable def aMs (t : Nat → Tk) (gap : Int) (I : Nat → It) (n m k : Nat) : Nat → Int := addG t gap I n (fun k => (I k).mx) (ms0 t I m) k
noncomputable def mqP (t : Nat → Tk) (gap : Int) (I : Nat → It) (n m i j : Nat) : Int := if j < i then mqF t gap I n m j else aMs t gap I n m m j
set_option maxHeartbeats 40000000 in
set_option maxRecDepth 100000 in
theorem new_dm (gap : Int) (p q : Option Addr) (n m c dd : Nat) (t : Nat → Tk) (I : Nat → It) (w : World) (hp : SRow w p n 2 (trC t)) (hq : SRow w q m 4 (itC I)) (hcn : n ≤ c) (hn : n ≤ 24) (hm : m ≤ 100) (hg : 0 ≤ gap ∧ gap ≤ 1048576) (ht : ∀ i, i < n → okT (t i)) (hI : ∀ k, k < m → okI n (I k)) :
    Calls Try.prog 30 #[.int .i64 gap, .slice p n c, .slice q m dd] w fun e w' => ∃ d lb mb, e = .returned (.pointer (some ⟨d, 0, none⟩)) ∧ Dm w w' d lb mb gap p n c t (lqF t gap I n m) (mqF t gap I n m) := by
  have HP := hide hp
  have HQ := hide hq
  have HI := hide hI
  have HG := hide hg
  have hmk : ∀ W : World, (Instr.makeSlice 22 (.int .i64 (n : Int)) (.int .i64 (n : Int))).run Try.prog W = .ok (.slice (some ⟨W.heap.size, 0, none⟩) n n) (W.alloc (.cells (ints n (fun _ => 0)) 3)) := make_ints n (by omega)
  have BL : Hid (∀ k, k ≤ m → ∀ i, i < n → 0 ≤ aLs t gap I n m k i ∧ aLs t gap I n m k i ≤ 1048576) := fun k hk i hi => by
    have := add_tight (t := t) (gap := gap) (f := fun k => (I k).mn) (s0 := ls0 t I m) hg.1 hI (fun k hk => (hI k hk).1.2) (fun i hi => ls0_bd ht hI hi) k hk i hi
    have := ls0_bd ht hI hi
    unfold aLs
    omega
  have BM : Hid (∀ k, k ≤ m → ∀ i, i < n → 0 ≤ aMs t gap I n m k i ∧ aMs t gap I n m k i ≤ 1048576) := fun k hk i hi => by
    have := add_tight (t := t) (gap := gap) (f := fun k => (I k).mx) (s0 := ms0 t I m) hg.1 hI (fun k hk => (hI k hk).2.1.2) (fun i hi => ms0_bd ht hI hi) k hk i hi
    have := ms0_bd ht hI hi
    unfold aMs
    omega
  have WL : Hid (∀ k, k < m → ∀ i, i < n → widF t gap (I k).mn (I k) (aLs t gap I n m k) i = aLs t gap I n m (k + 1) i) := fun k hk i hi =>
    wid_add (f := fun k => (I k).mn) (hI k hk) ht (fun h1 h0 => by
      have a := one_ls hk (hI k hk) h1 h0
      have b := aG_eq (hI k hk)
      have := add_tight (t := t) (gap := gap) (f := fun k => (I k).mn) (s0 := ls0 t I m) hg.1 hI (fun k hk => (hI k hk).1.2) (fun i hi => ls0_bd ht hI hi) k (by omega) (aG (I k)) (by omega)
      omega) hi
  have WM : Hid (∀ k, k < m → ∀ i, i < n → widF t gap (I k).mx (I k) (aMs t gap I n m k) i = aMs t gap I n m (k + 1) i) := fun k hk i hi =>
    wid_add (f := fun k => (I k).mx) (hI k hk) ht (fun h1 h0 => by
      have a := one_ms hk (hI k hk) h1 h0
      have b := aG_eq (hI k hk)
      have := add_tight (t := t) (gap := gap) (f := fun k => (I k).mx) (s0 := ms0 t I m) hg.1 hI (fun k hk => (hI k hk).2.1.2) (fun i hi => ms0_bd ht hI hi) k (by omega) (aG (I k)) (by omega)
      omega) hi
  have MQ : Hid (∀ i, mqF t gap I n m i = max (aMs t gap I n m m i) (lqF t gap I n m i)) := fun i => rfl
  have LQ : Hid (∀ i, aLs t gap I n m m i = lqF t gap I n m i) := fun i => rfl
  clear hp hq ht hI hg
  go_enter Try.func30, Try.ntmps30
  go_wp2_with fail
  refine MJ.wp_region_mixed (fun _ => True) [4, 7, 8, 9, 10] [(16, 4), (19, 7), (20, 8), (21, 9), (7, 10)] (dmM w n gap p c) (by kernel_rfl) (by kernel_rfl) (by simp) ?h0 (fun D D' vs vs' W hD h => h.ext hD) (fun _ _ _ _ _ _ _ _ _ => trivial) ?_
  case h0 => exact fun vs => ⟨(Below.refl _ _).drew, fun h => Bool.noConfusion h, fun h => Bool.noConfusion h, fun h => Bool.noConfusion h, fun h => Bool.noConfusion h, fun h => Bool.noConfusion h⟩
  repeat (refine MJ.lex_calm rfl (by rfl) (fun K hK => ?_); apply Exists.intro; refine ⟨fun W' hW => ?_, ?_⟩; (dsimp only at hW; go_simp; exact rfl); go_simp; refine hK _ ?_; clear hK K)
  refine MJ.lex_made (by rfl) rfl ?_ ?_
  · rintro D vs W hM h4 hcl hdep
    have FIN := hide hM.op4
    clear hM
    have hm := hmk W
    simp [go_sem, evS, List.lookup, hm]
    exact FIN.out
  repeat (refine MJ.lex_calm rfl (by rfl) (fun K hK => ?_); apply Exists.intro; refine ⟨fun W' hW => ?_, ?_⟩; (dsimp only at hW; go_simp; exact rfl); go_simp; refine hK _ ?_; clear hK K)
  refine MJ.lex_made (by rfl) rfl ?_ ?_
  · rintro D vs W hM h4 hcl hdep
    have FIN := hide hM.op7
    clear hM
    have hm := hmk W
    simp [go_sem, evS, List.lookup, hm]
    exact FIN.out
  repeat (refine MJ.lex_calm rfl (by rfl) (fun K hK => ?_); apply Exists.intro; refine ⟨fun W' hW => ?_, ?_⟩; (dsimp only at hW; go_simp; exact rfl); go_simp; refine hK _ ?_; clear hK K)
  refine MJ.lex_made (by rfl) rfl ?_ ?_
  · rintro D vs W hM h4 hcl hdep
    obtain ⟨wb, sb, e4, e7, hM2⟩ := hM.op8 (hdep 4 (by decide +kernel)) (hdep 7 (by decide +kernel))
    have FIN := hide hM2
    clear hM hM2
    simp [go_sem, evS, List.lookup, e4, e7]
    exact FIN.out
  repeat (refine MJ.lex_calm rfl (by rfl) (fun K hK => ?_); apply Exists.intro; refine ⟨fun W' hW => ?_, ?_⟩; (dsimp only at hW; go_simp; exact rfl); go_simp; refine hK _ ?_; clear hK K)
  refine MJ.lex_made (by rfl) rfl ?_ ?_
  · rintro D vs W hM h4 hcl hdep
    obtain ⟨wb, sb, e8, hM2⟩ := hM.op9 (hdep 8 (by decide +kernel))
    have FIN := hide hM2
    clear hM hM2
    simp [go_sem, evS, List.lookup, e8]
    exact FIN.out
  repeat (refine MJ.lex_calm rfl (by rfl) (fun K hK => ?_); apply Exists.intro; refine ⟨fun W' hW => ?_, ?_⟩; (dsimp only at hW; go_simp; exact rfl); go_simp; refine hK _ ?_; clear hK K)
  refine MJ.lex_made (by rfl) rfl ?_ ?_
  · rintro D vs W hM h4 hcl hdep
    have FIN := hide (hM.op10 (hdep 9 (by decide +kernel)))
    obtain ⟨d, wb, sb, e9, _⟩ := hM.m9 (hdep 9 (by decide +kernel))
    rw [e9] at FIN
    clear hM
    simp [go_sem, evS, List.lookup, e9]
    exact FIN.out
  refine MJ.lex_nil ?_
  rintro vs w1 hM
  obtain ⟨d, lb, mb, e9, n1, n2, n3, hb, n4, n5, n6, hr1, hr2⟩ := hM.m10 rfl
  have D1 : Hid (Dm w w1 d lb mb gap p n c t (fun _ => 0) (fun _ => 0)) := ⟨hb, hr1, hr2, HP.out, hM.m0, n1, n4, n5, n2, n3, n6⟩
  clear hM hb hr1 hr2 n1 n2 n3 n4 n5 n6 hmk
  simp only [fillS, List.foldl_cons, List.foldl_nil, e9]
  clear e9
  have FT := hide (fit_any w w1 d lb mb gap p q n c m dd t I D1.out HQ.out hn hm HI.out)
  clear D1
  go_wp2_with fail
  refine FT.out.mono ?_
  rintro e w2 ⟨rfl, hD⟩
  have D2 : Hid (Dm w w2 d lb mb gap p n c t (aLs t gap I n m 0) (aMs t gap I n m 0)) := hD
  clear hD FT
  go_wp2_with fail
  go_loopg [27] (m + 1) (fun g1 vk wr => ∃ k : Nat, vk = .int .i64 (k : Int) ∧ k ≤ m ∧ m - k < g1 ∧ Hid (Dm w wr d lb mb gap p n c t (aLs t gap I n m k) (aMs t gap I n m k)))
  case atStart => exact ⟨0, by go_num, by omega, by omega, D2⟩
  case round =>
    clear D2
    obtain ⟨wo, rfl⟩ : ∃ wo : World, wo = wr := ⟨_, rfl⟩
    obtain ⟨k, rfl, hk, hgg, DD⟩ := hrel
    by_cases hlt : k < m
    · have hltz : (k : Int) < (m : Int) := by omega
      obtain ⟨b, off, rfl, hb, hc⟩ := (HQ.out.below DD.out.below) (by omega)
      have c0 : wo.cell? ⟨b, off + k * 4, none⟩ = some (.int .i64 (I k).at_) := hc k hlt 0 (by decide)
      have c1 : wo.cell? ⟨b, off + k * 4 + 1, none⟩ = some (.int .i64 (I k).sp) := hc k hlt 1 (by decide)
      have c2 : wo.cell? ⟨b, off + k * 4 + 2, none⟩ = some (.int .i64 (I k).mn) := hc k hlt 2 (by decide)
      have c3 : wo.cell? ⟨b, off + k * 4 + 3, none⟩ = some (.int .i64 (I k).mx) := hc k hlt 3 (by decide)
      have hx := HI.out k hlt
      have NX : Hid (wo.heap.size ≠ lb ∧ wo.heap.size ≠ mb) := ⟨Nat.ne_of_gt DD.out.lts.2.1, Nat.ne_of_gt DD.out.lts.2.2⟩
      have C2 : Hid (∀ W' L M, Dm w W' d lb mb gap p n c t L M → (∀ i, i < n → 0 ≤ L i ∧ L i ≤ 1048576) → Calls Try.prog 44 #[.pointer (some ⟨d, 0, none⟩), .slice (some ⟨lb, 0, none⟩) n n, itV (I k), .int .i64 (I k).mn] W' fun e w' => e = .returned (.tuple #[]) ∧ IRow w' lb n (widF t gap (I k).mn (I k) L) ∧ Kept lb W' w') := fun W' L M h hb => wid_any gap (I k).mn d p n c _ _ t (I k) lb L w W' h.blk h.dl HP.out h.below h.hl h.l hn hx HG.out hx.1 hb hcn
      have C3 : Hid (∀ W' L M, Dm w W' d lb mb gap p n c t L M → (∀ i, i < n → 0 ≤ M i ∧ M i ≤ 1048576) → Calls Try.prog 44 #[.pointer (some ⟨d, 0, none⟩), .slice (some ⟨mb, 0, none⟩) n n, itV (I k), .int .i64 (I k).mx] W' fun e w' => e = .returned (.tuple #[]) ∧ IRow w' mb n (widF t gap (I k).mx (I k) M) ∧ Kept mb W' w') := fun W' L M h hb => wid_any gap (I k).mx d p n c _ _ t (I k) mb M w W' h.blk h.dm HP.out h.below h.hm h.m hn hx HG.out hx.2.1 hb hcn
      have W2 := hide (WL.out k hlt)
      have W3 := hide (WM.out k hlt)
      have DA := hide (fun o => DD.out.alloc o)
      clear hc hb DD hx
      unfold itV at C2 C3
      generalize widF t gap (I k).mn (I k) = wdl at *
      generalize widF t gap (I k).mx (I k) = wdm at *
      generalize (I k).at_ = x0 at *
      generalize (I k).sp = x1 at *
      generalize (I k).mn = x2 at *
      generalize (I k).mx = x3 at *
      have D2 := hide (DA.out (.cells #[.int .i64 x0, .int .i64 x1, .int .i64 x2, .int .i64 x3] 44))
      have XB : Hid (Blk (wo.alloc (.cells #[.int .i64 x0, .int .i64 x1, .int .i64 x2, .int .i64 x3] 44)) wo.heap.size 44 [.int .i64 x0, .int .i64 x1, .int .i64 x2, .int .i64 x3]) := Blk.new rfl
      clear DA
      go_wp2_with fail
      clear c0 c1 c2 c3
      generalize wo.alloc (.cells #[.int .i64 x0, .int .i64 x1, .int .i64 x2, .int .i64 x3] 44) = w3 at *
      generalize wo.heap.size = xb at *
      have JQ2 : Hid (∀ W' L M, Dm w W' d lb mb gap p n c t L M → Blk W' xb 44 [.int .i64 x0, .int .i64 x1, .int .i64 x2, .int .i64 x3] → W'.cell? ⟨d, 2, none⟩ = some (.slice (some ⟨lb, 0, none⟩) n n) ∧ W'.cell? ⟨xb, 0, none⟩ = some (.int .i64 x0) ∧ W'.cell? ⟨xb, 1, none⟩ = some (.int .i64 x1) ∧ W'.cell? ⟨xb, 2, none⟩ = some (.int .i64 x2) ∧ W'.cell? ⟨xb, 3, none⟩ = some (.int .i64 x3)) := fun W' L M h1 h2 => ⟨h1.blk.cell 2 rfl, h2.cell 0 rfl, h2.cell 1 rfl, h2.cell 2 rfl, h2.cell 3 rfl⟩
      have JQ3 : Hid (∀ W' L M, Dm w W' d lb mb gap p n c t L M → Blk W' xb 44 [.int .i64 x0, .int .i64 x1, .int .i64 x2, .int .i64 x3] → W'.cell? ⟨d, 3, none⟩ = some (.slice (some ⟨mb, 0, none⟩) n n) ∧ W'.cell? ⟨xb, 0, none⟩ = some (.int .i64 x0) ∧ W'.cell? ⟨xb, 1, none⟩ = some (.int .i64 x1) ∧ W'.cell? ⟨xb, 2, none⟩ = some (.int .i64 x2) ∧ W'.cell? ⟨xb, 3, none⟩ = some (.int .i64 x3)) := fun W' L M h1 h2 => ⟨h1.blk.cell 3 rfl, h2.cell 0 rfl, h2.cell 1 rfl, h2.cell 2 rfl, h2.cell 3 rfl⟩
      have CALL2 : Hid (∀ W', (Dm w W' d lb mb gap p n c t (aLs t gap I n m k) (aMs t gap I n m k) ∧ Blk W' xb 44 [.int .i64 x0, .int .i64 x1, .int .i64 x2, .int .i64 x3]) → Calls Try.prog 44 #[.pointer (some ⟨d, 0, none⟩), .slice (some ⟨lb, 0, none⟩) n n, .agg #[.int .i64 x0, .int .i64 x1, .int .i64 x2, .int .i64 x3], .int .i64 x2] W' fun e w' => e = .returned (.tuple #[]) ∧ (Dm w w' d lb mb gap p n c t (aLs t gap I n m (k + 1)) (aMs t gap I n m k) ∧ Blk w' xb 44 [.int .i64 x0, .int .i64 x1, .int .i64 x2, .int .i64 x3])) := fun W' ⟨h1, h2⟩ => (C2.out W' _ _ h1 (BL.out k (by omega))).mono (by
        rintro e w' ⟨he, hr, hkp⟩
        exact ⟨he, h1.keptl (hr.congr fun i hi => W2.out i hi) hkp, h2.kept hkp NX.out.1⟩)
      have CALL3 : Hid (∀ W', (Dm w W' d lb mb gap p n c t (aLs t gap I n m (k + 1)) (aMs t gap I n m k) ∧ Blk W' xb 44 [.int .i64 x0, .int .i64 x1, .int .i64 x2, .int .i64 x3]) → Calls Try.prog 44 #[.pointer (some ⟨d, 0, none⟩), .slice (some ⟨mb, 0, none⟩) n n, .agg #[.int .i64 x0, .int .i64 x1, .int .i64 x2, .int .i64 x3], .int .i64 x3] W' fun e w' => e = .returned (.tuple #[]) ∧ (Dm w w' d lb mb gap p n c t (aLs t gap I n m (k + 1)) (aMs t gap I n m (k + 1)) ∧ Blk w' xb 44 [.int .i64 x0, .int .i64 x1, .int .i64 x2, .int .i64 x3])) := fun W' ⟨h1, h2⟩ => (C3.out W' _ _ h1 (BM.out k (by omega))).mono (by
        rintro e w' ⟨he, hr, hkp⟩
        exact ⟨he, h1.keptm (hr.congr fun i hi => W3.out i hi) hkp, h2.kept hkp NX.out.2⟩)
      have PRE : Hid (Dm w w3.drew d lb mb gap p n c t (aLs t gap I n m k) (aMs t gap I n m k) ∧ Blk w3.drew xb 44 [.int .i64 x0, .int .i64 x1, .int .i64 x2, .int .i64 x3]) := ⟨D2.out.drewN 1, XB.out⟩
      clear D2 XB C2 C3 W2 W3
      refine MJ.wp_region_chain (fun W' => W'.cell? ⟨d, 2, none⟩ = some (.slice (some ⟨lb, 0, none⟩) n n) ∧ W'.cell? ⟨xb, 0, none⟩ = some (.int .i64 x0) ∧ W'.cell? ⟨xb, 1, none⟩ = some (.int .i64 x1) ∧ W'.cell? ⟨xb, 2, none⟩ = some (.int .i64 x2) ∧ W'.cell? ⟨xb, 3, none⟩ = some (.int .i64 x3)) [8] [(39, 8)] (s1t (fun W' => (Dm w W' d lb mb gap p n c t (aLs t gap I n m k) (aMs t gap I n m k) ∧ Blk W' xb 44 [.int .i64 x0, .int .i64 x1, .int .i64 x2, .int .i64 x3])) (fun W' => (Dm w W' d lb mb gap p n c t (aLs t gap I n m (k + 1)) (aMs t gap I n m k) ∧ Blk W' xb 44 [.int .i64 x0, .int .i64 x1, .int .i64 x2, .int .i64 x3]))) (by kernel_rfl) (by kernel_rfl) (by simp) ?h0 ?hJ ?_
      case h0 => exact PRE.out
      case hJ =>
        rintro vals W' _ hS'
        exact s1t_A (J := fun W' => W'.cell? ⟨d, 2, none⟩ = some (.slice (some ⟨lb, 0, none⟩) n n) ∧ W'.cell? ⟨xb, 0, none⟩ = some (.int .i64 x0) ∧ W'.cell? ⟨xb, 1, none⟩ = some (.int .i64 x1) ∧ W'.cell? ⟨xb, 2, none⟩ = some (.int .i64 x2) ∧ W'.cell? ⟨xb, 3, none⟩ = some (.int .i64 x3)) (fun W h => JQ2.out W _ _ h.1 h.2) (fun W h => JQ2.out W _ _ h.1 h.2) vals W' hS'
      repeat (refine MJ.lex_calm rfl (by rfl) (fun K hK => ?_); apply Exists.intro; refine ⟨fun W' hW => ?_, ?_⟩; (dsimp only at hW; go_simp; exact rfl); go_simp; refine hK _ ?_; clear hK K)
      refine MJ.lex_chain 0 rfl (by kernel_rfl) rfl ?_ ?_
      · rintro vs W' hS'
        have y3 := hide (CALL2.out W' hS')
        clear hS'
        simp [go_sem, evS, List.lookup]
        refine y3.out.mono ?_
        rintro e w' ⟨rfl, hR⟩
        exact ⟨_, rfl, hR⟩
      refine MJ.lex_nil ?_
      rintro vs w4 s1
      have PRE : Hid (Dm w w4.drew d lb mb gap p n c t (aLs t gap I n m (k + 1)) (aMs t gap I n m k) ∧ Blk w4.drew xb 44 [.int .i64 x0, .int .i64 x1, .int .i64 x2, .int .i64 x3]) := ⟨s1.1.drewN 1, s1.2⟩
      clear s1 CALL2 JQ2
      simp only [fillS, List.foldl_cons, List.foldl_nil]
      go_simp
      go_wp2_with fail
      refine MJ.wp_region_chain (fun W' => W'.cell? ⟨d, 3, none⟩ = some (.slice (some ⟨mb, 0, none⟩) n n) ∧ W'.cell? ⟨xb, 0, none⟩ = some (.int .i64 x0) ∧ W'.cell? ⟨xb, 1, none⟩ = some (.int .i64 x1) ∧ W'.cell? ⟨xb, 2, none⟩ = some (.int .i64 x2) ∧ W'.cell? ⟨xb, 3, none⟩ = some (.int .i64 x3)) [8] [(48, 8)] (s1t (fun W' => (Dm w W' d lb mb gap p n c t (aLs t gap I n m (k + 1)) (aMs t gap I n m k) ∧ Blk W' xb 44 [.int .i64 x0, .int .i64 x1, .int .i64 x2, .int .i64 x3])) (fun W' => (Dm w W' d lb mb gap p n c t (aLs t gap I n m (k + 1)) (aMs t gap I n m (k + 1)) ∧ Blk W' xb 44 [.int .i64 x0, .int .i64 x1, .int .i64 x2, .int .i64 x3]))) (by kernel_rfl) (by kernel_rfl) (by simp) ?h0 ?hJ ?_
      case h0 => exact PRE.out
      case hJ =>
        rintro vals W' _ hS'
        exact s1t_A (J := fun W' => W'.cell? ⟨d, 3, none⟩ = some (.slice (some ⟨mb, 0, none⟩) n n) ∧ W'.cell? ⟨xb, 0, none⟩ = some (.int .i64 x0) ∧ W'.cell? ⟨xb, 1, none⟩ = some (.int .i64 x1) ∧ W'.cell? ⟨xb, 2, none⟩ = some (.int .i64 x2) ∧ W'.cell? ⟨xb, 3, none⟩ = some (.int .i64 x3)) (fun W h => JQ3.out W _ _ h.1 h.2) (fun W h => JQ3.out W _ _ h.1 h.2) vals W' hS'
      repeat (refine MJ.lex_calm rfl (by rfl) (fun K hK => ?_); apply Exists.intro; refine ⟨fun W' hW => ?_, ?_⟩; (dsimp only at hW; go_simp; exact rfl); go_simp; refine hK _ ?_; clear hK K)
      refine MJ.lex_chain 0 rfl (by kernel_rfl) rfl ?_ ?_
      · rintro vs W' hS'
        have y3 := hide (CALL3.out W' hS')
        clear hS'
        simp [go_sem, evS, List.lookup]
        refine y3.out.mono ?_
        rintro e w' ⟨rfl, hR⟩
        exact ⟨_, rfl, hR⟩
      refine MJ.lex_nil ?_
      rintro vs w5 s1
      have D5 := hide s1.1
      clear s1 CALL3 JQ3 PRE
      replace D5 : Hid (Dm w w5 d lb mb gap p n c t (aLs t gap I n m (k + 1)) (aMs t gap I n m (k + 1))) := D5.out
      simp only [fillS, List.foldl_cons, List.foldl_nil]
      go_wp2_with fail
      go_roundg (m - k)
      case measure => omega
      case rel => exact ⟨k + 1, by go_num, by omega, by omega, D5⟩
    · have hltz : ¬ (k : Int) < (m : Int) := by omega
      obtain rfl : m = k := by omega
      have D6 : Hid (Dm w wo d lb mb gap p n c t (lqF t gap I n m) (mqP t gap I n m 0)) := DD.out.congr (fun j _ => LQ.out j) (fun j _ => by unfold mqP; rw [if_neg (Nat.not_lt_zero j)])
      have e2 := DD.out.blk.cell 2 rfl
      clear DD BL WL WM
      go_wp2_with fail
      clear e2
      go_loopg [55] (n + 1) (fun g1 vi wr => ∃ i : Nat, vi = .int .i64 (i : Int) ∧ i ≤ n ∧ n - i < g1 ∧ Hid (Dm w wr d lb mb gap p n c t (lqF t gap I n m) (mqP t gap I n m i)))
      case atStart => exact ⟨0, by go_num, by omega, by omega, D6⟩
      case round =>
        clear D6
        obtain ⟨wq, rfl⟩ : ∃ wq : World, wq = wr := ⟨_, rfl⟩
        obtain ⟨i, rfl, hi, hg2, DD⟩ := hrel
        by_cases hli : i < n
        · have hliz : (i : Int) < (n : Int) := by omega
          have cl := DD.out.l.cell hli
          have ME : Hid (mqP t gap I n m i i = aMs t gap I n m m i) := by show _ = _; unfold mqP; rw [if_neg (Nat.lt_irrefl _)]
          have NM : Hid (∀ j, (if j = i then max (aMs t gap I n m m i) (lqF t gap I n m i) else mqP t gap I n m i j) = mqP t gap I n m (i + 1) j) := fun j => by
            unfold mqP
            by_cases h1 : j = i
            · subst h1; rw [if_pos rfl, if_pos (show j < j + 1 by omega), MQ.out]
            · by_cases h2 : j < i
              · rw [if_neg h1, if_pos h2, if_pos (show j < i + 1 by omega)]
              · rw [if_neg h1, if_neg h2, if_neg (show ¬ j < i + 1 by omega)]
          have JQ : Hid (∀ W', Dm w W' d lb mb gap p n c t (lqF t gap I n m) (mqP t gap I n m i) → W'.cell? ⟨d, 3, none⟩ = some (.slice (some ⟨mb, 0, none⟩) n n) ∧ W'.cell? ⟨mb, i, none⟩ = some (.int .i64 (aMs t gap I n m m i))) := fun W' h => ⟨h.blk.cell 3 rfl, ME.out ▸ h.m.cell hli⟩
          have ST0 : Hid (∀ W', Dm w W' d lb mb gap p n c t (lqF t gap I n m) (mqP t gap I n m i) → W'.frozen? ⟨mb, i, none⟩ = false ∧ Dm w (W'.setCell ⟨mb, i, none⟩ (.int .i64 (max (aMs t gap I n m m i) (lqF t gap I n m i)))) d lb mb gap p n c t (lqF t gap I n m) (mqP t gap I n m (i + 1))) := fun W' h => ⟨h.m.frozen _, (h.setm i _).congr (fun _ _ => rfl) (fun j _ => NM.out j)⟩
          have PRE : Hid (Dm w wq.drew d lb mb gap p n c t (lqF t gap I n m) (mqP t gap I n m i)) := DD.out.drewN 1
          clear DD NM ME
          generalize aMs t gap I n m m i = v0 at *
          generalize hv1 : lqF t gap I n m i = v1 at *
          clear hv1
          go_wp2_with fail
          refine MJ.wp_region_chain (fun W' => W'.cell? ⟨d, 3, none⟩ = some (.slice (some ⟨mb, 0, none⟩) n n) ∧ W'.cell? ⟨mb, i, none⟩ = some (.int .i64 v0)) [15] [] (s1t (fun W' => Dm w W' d lb mb gap p n c t (lqF t gap I n m) (mqP t gap I n m i)) (fun W' => Dm w W' d lb mb gap p n c t (lqF t gap I n m) (mqP t gap I n m (i + 1)))) (by kernel_rfl) (by kernel_rfl) (by simp) ?h0 ?hJ ?_
          case h0 => exact PRE.out
          case hJ =>
            rintro vals W' (hl | hl) hS'
            · exact s1t_J (J := fun W' => W'.cell? ⟨d, 3, none⟩ = some (.slice (some ⟨mb, 0, none⟩) n n) ∧ W'.cell? ⟨mb, i, none⟩ = some (.int .i64 v0)) (fun W h => JQ.out W h) vals W' hl hS'
            · exact absurd hl (by rw [show MJ.sinkL _ _ = true by kernel_rfl]; exact Bool.noConfusion)
          repeat (refine MJ.lex_calm rfl (by rfl) (fun K hK => ?_); apply Exists.intro; refine ⟨fun W' hW => ?_, ?_⟩; (dsimp only at hW; go_simp; exact rfl); go_simp; refine hK _ ?_; clear hK K)
          refine MJ.lex_chain 0 rfl (by kernel_rfl) rfl ?_ ?_
          · rintro vs W' hS'
            obtain ⟨y2, y3⟩ := ST0.out W' hS'
            obtain ⟨_, y1⟩ := JQ.out W' hS'
            have y3 := hide y3
            clear hS'
            simp [go_sem, evS, List.lookup, y1, y2]
            exact y3.out
          refine MJ.lex_nil ?_
          rintro vs w6 s1
          have D7 := hide s1
          replace D7 : Hid (Dm w w6 d lb mb gap p n c t (lqF t gap I n m) (mqP t gap I n m (i + 1))) := D7.out
          clear s1 ST0 PRE JQ
          simp only [fillS, List.foldl_nil]
          go_wp2_with fail
          go_roundg (n - i)
          case measure => omega
          case rel => exact ⟨i + 1, by go_num, by omega, by omega, D7⟩
        · have hliz : ¬ (i : Int) < (n : Int) := by omega
          obtain rfl : n = i := by omega
          go_wp2_with fail
          go_ret
          exact ⟨d, rfl, lb, mb, DD.out.congr (fun _ _ => rfl) (fun j hj => by unfold mqP; rw [if_pos hj])⟩
end Go.Proofs.Ytdoenkngmgclmaa
