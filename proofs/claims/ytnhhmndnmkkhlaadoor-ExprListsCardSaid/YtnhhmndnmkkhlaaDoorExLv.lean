/- The walk of the law ExprLists; no condition. -/
import Derived.Test.YtnhhmndnmkkhlaaDoorExLu
namespace Go.Proofs.YtnhhmndnmkkhlaaDoor
open Go.RowKit Go.Sort
set_option linter.unusedVariables false
set_option linter.unusedSimpArgs false
set_option maxRecDepth 100000

/-- A row of the call's own, made behind the world w5. -/
def AP (w5 : World) (v : Value) (n : Nat) (xs : List Value) (W : World) : Prop := W.ownsRow w5.heap.size 24 4 v n xs ∧ Below w5.heap.size w5 W
def StA (w5 : World) (na nb : Nat) (ga gb : Nat → Int) : List Value → World → Prop
  | [], W => AP w5 (.slice none 0 0) 0 [] W
  | [r], W => AP w5 r na (vcs ga na) W
  | [_, r], W => AP w5 r (na + nb) (vcs (catG ga gb na) (na + nb)) W
  | _ :: _ :: r :: _, W => AP w5 r (na + nb) (vcs (catG ga gb na) (na + nb)) W
theorem StA.below {w5 W : World} {na nb : Nat} {ga gb : Nat → Int} {l : List Value} (h : StA w5 na nb ga gb l W) : Below w5.heap.size w5 W := by
  match l, h with
  | [], h => exact h.2
  | [_], h => exact h.2
  | [_, _], h => exact h.2
  | _ :: _ :: _ :: _, h => exact h.2
abbrev tupV (kr nr er : Int) (p : Option Addr) (m c : Nat) : Value := .tuple #[.agg #[.int .i64 kr, .int .i64 nr, .string ⟨#[]⟩, .slice p m c], .int .i64 er]
/-- The values of the operations of the regions that take an element, or leave one out. -/
def PI (op : Int) (E A bs : Nat) (i kr nr er : Int) (H : Option Addr → Nat → Nat → World → Prop) (j : Nat) (v : Value) (w : World) : Prop := match j with
  | 0 => v = (bothN A).v
  | 1 => v = .int .i64 i
  | 2 => v = nv 1 i
  | 3 => ∃ b, v = .slice (some ⟨b, 0, none⟩) 2 2 ∧ Blk w b 58 (opL A i)
  | 4 => ∃ b, v = (opN op b).v ∧ Blk w b 58 (opL A i)
  | 5 => v = .slice (some ⟨E, 0, none⟩) 2 2
  | 6 => ∃ p m c, v = tupV kr nr er p m c ∧ H p m c w
  | 7 => ∃ p m c, v = tupV kr nr er p m c ∧ H p m c w
  | 8 => ∃ p m c, v = .agg #[.int .i64 kr, .int .i64 nr, .string ⟨#[]⟩, .slice p m c] ∧ H p m c w
  | 10 => ∃ b, v = .pointer (some ⟨b, 0, none⟩) ∧ Blk w b 24 [.int .i64 0, .int .i64 0, .string ⟨#[]⟩, .slice none 0 0] ∧ bs ≤ b
  | _ => True
theorem PI.grew {op : Int} {E A bs : Nat} {i kr nr er : Int} {H : Option Addr → Nat → Nat → World → Prop} (hH : ∀ p m c w w', H p m c w → Grew w w' → H p m c w') (j : Nat) (v : Value) (w w' : World) (g : Grew w w') (h : PI op E A bs i kr nr er H j v w) : PI op E A bs i kr nr er H j v w' := by
  unfold PI at *
  split at h
  case h_4 => obtain ⟨b, h1, h2⟩ := h; exact ⟨b, h1, h2.grew g⟩
  case h_5 => obtain ⟨b, h1, h2⟩ := h; exact ⟨b, h1, h2.grew g⟩
  case h_7 => obtain ⟨p, m, c, h1, h2⟩ := h; exact ⟨p, m, c, h1, hH _ _ _ _ _ h2 g⟩
  case h_8 => obtain ⟨p, m, c, h1, h2⟩ := h; exact ⟨p, m, c, h1, hH _ _ _ _ _ h2 g⟩
  case h_9 => obtain ⟨p, m, c, h1, h2⟩ := h; exact ⟨p, m, c, h1, hH _ _ _ _ _ h2 g⟩
  case h_10 => obtain ⟨b, h1, h2, h3⟩ := h; exact ⟨b, h1, h2.grew g, h3⟩
  all_goals exact h
def SI (kr nr er : Int) (bs : Nat) (H : Option Addr → Nat → Nat → World → Prop) (w0 : World) (vs : Nat → Value) (w : World) : Prop :=
  ∃ b p m c, vs 10 = .pointer (some ⟨b, 0, none⟩) ∧ Blk w b 24 [.int .i64 kr, .int .i64 nr, .string ⟨#[]⟩, .slice p m c] ∧ H p m c w ∧ Grew w0 w ∧ bs ≤ b ∧ ∃ p m c, vs 7 = tupV kr nr er p m c
theorem SI.ext {kr nr er : Int} {bs : Nat} {H : Option Addr → Nat → Nat → World → Prop} {w0 : World} (vs vs' : Nat → Value) (w : World) (h : ∀ k, k < 11 → [9, 12].contains k = false → vs k = vs' k) (hs : SI kr nr er bs H w0 vs w) : SI kr nr er bs H w0 vs' w := by
  obtain ⟨b, p, m, c, h1, h2, h3, h4, h5, h6⟩ := hs
  exact ⟨b, p, m, c, by rw [← h 10 (by omega) rfl]; exact h1, h2, h3, h4, h5, by rw [← h 7 (by omega) rfl]; exact h6⟩
/-- No list. -/
def HN (p : Option Addr) (m c : Nat) (_ : World) : Prop := p = none ∧ m = 0 ∧ c = 0
/-- A list of ints. -/
def HL (M : Nat) (G : Nat → Int) (p : Option Addr) (m _ : Nat) (W : World) : Prop := m = M ∧ Row W W.heap.size p M (fun i => nd 1 (G i))
theorem HL.grew {M : Nat} {G : Nat → Int} (p : Option Addr) (m c : Nat) (w w' : World) (h : HL M G p m c w) (g : Grew w w') : HL M G p m c w' := ⟨h.1, (h.2.below g.1).mono g.size⟩
theorem Row.setOther {W : World} {B M b b' off : Nat} {f : Nat → Nd} (h : Row W B (some ⟨b', off, none⟩) M f) (hb : b' ≠ b) (o : Nat) (x : Value) : Row (W.setCell ⟨b, o, none⟩ x) B (some ⟨b', off, none⟩) M f := fun h0 => by
  obtain ⟨b1, off1, h1, h2, h3⟩ := h h0
  simp only [Option.some.injEq, Addr.mk.injEq, and_true] at h1
  obtain ⟨rfl, rfl⟩ := h1
  have key : ∀ q, (W.setCell ⟨b, o, none⟩ x).cell? ⟨b', q, none⟩ = W.cell? ⟨b', q, none⟩ := fun q => by
    have := heap_setCell_other W ⟨b, o, none⟩ b' x (by exact hb)
    simp only [World.cell?, this]
  exact ⟨_, _, rfl, h2, fun i hi => ⟨(key _).trans (h3 i hi).1, (key _).trans (h3 i hi).2.1, (key _).trans (h3 i hi).2.2.1, (key _).trans (h3 i hi).2.2.2⟩⟩
theorem HL.set {M : Nat} {G : Nat → Int} (p : Option Addr) (m c : Nat) (W : World) (b : Nat) (x0 x1 x2 x3 : Value) (h : HL M G p m c W) (hb : Blk W b 24 [.int .i64 0, .int .i64 0, .string ⟨#[]⟩, .slice none 0 0]) : HL M G p m c ((((W.setCell ⟨b, 0, none⟩ x0).setCell ⟨b, 1, none⟩ x1).setCell ⟨b, 2, none⟩ x2).setCell ⟨b, 3, none⟩ x3) := by
  obtain ⟨h1, h2⟩ := h
  refine ⟨h1, fun h0 => ?_⟩
  obtain ⟨b', off, rfl, h3, h4⟩ := h2 h0
  have hne : b' ≠ b := by
    rintro rfl
    obtain ⟨y, -, -, -⟩ := h4 0 h0
    simp [World.cell?, show W.heap[b']? = _ from hb] at y
    rcases off with _ | _ | _ | _ | off <;> simp at y
  have := ((((h2.setOther hne 0 x0).setOther hne 1 x1).setOther hne 2 x2).setOther hne 3 x3)
  have k := this h0
  simpa using k

set_option maxHeartbeats 16000000 in
theorem lists_in (p1 p2 : Option Addr) (na nb c1 c2 : Nat) (fa fb : Nat → Int) (k : Nat) (w : World) (hn : na + nb ≤ 60) (hk : k ≤ 9223372036854775807) (ha : Reads w p1 na fa) (hb : Reads w p2 nb fb)
    (hfa : ∀ k, -9223372036854775808 ≤ fa k ∧ fa k ≤ 9223372036854775807) (hfb : ∀ k, -9223372036854775808 ≤ fb k ∧ fb k ≤ 9223372036854775807) :
    Calls Tryd.prog 7 #[.slice p1 na c1, .slice p2 nb c2, .int .i64 (k : Int)] w fun e w' => e = .returned (.bool true) ∧ Below w.heap.size w w' := by
  have KA := fun W (g : Grew w W) => hide (llist_any p1 na c1 fa W (by omega) (ha.grew g) hfa)
  have KB := fun W (g : Grew w W) => hide (llist_any p2 nb c2 fb W (by omega) (hb.grew g) hfb)
  have la' : ∀ i, nuB ((fun i => (fa i).tmod 1000) i) = true := fun i => by
    show nuB ((fa i).tmod 1000) = true
    have e1 := Int.tmod_lt_of_pos (fa i) (show (0 : Int) < 1000 by omega)
    have e2 := Int.lt_tmod_of_pos (fa i) (show (0 : Int) < 1000 by omega)
    unfold nuB; simp; omega
  have lb' : ∀ i, nuB ((fun i => (fb i).tmod 1000) i) = true := fun i => by
    show nuB ((fb i).tmod 1000) = true
    have e1 := Int.tmod_lt_of_pos (fb i) (show (0 : Int) < 1000 by omega)
    have e2 := Int.lt_tmod_of_pos (fb i) (show (0 : Int) < 1000 by omega)
    unfold nuB; simp; omega
  generalize (fun i => (fa i).tmod 1000) = la at *
  generalize (fun i => (fb i).tmod 1000) = lb at *
  have AW := fun W => hide (awake_any W)
  have KI := fun i W => hide (lin_any i W)
  have wab : IntKind.i64.wrap ((na : Int) + (nb : Int)) = (na : Int) + (nb : Int) := wr (by omega) (by omega)
  have hn60 : ¬ (60 : Int) < (na : Int) + (nb : Int) := by omega
  have hk0 : ¬ (k : Int) < 0 := by omega
  clear ha hb hfa hfb
  go_enter Tryd.func7, Tryd.ntmps7
  go_wp2_with fail
  refine ((KA _ (Grew.refl _)).out).mono ?_
  rintro e w1 ⟨pa, ca, rfl, ⟨qa, oa⟩, G1⟩
  go_wp2_with fail
  refine ((KB _ G1).out).mono ?_
  rintro e w2 ⟨pb, cb, rfl, ⟨qb, ob⟩, G2⟩
  have ra := hide ((OwnL.grew pa na ca _ _ oa G2).row.1)
  have rb := hide (ob.row.1)
  have D := hide (LD.mk (ga := la) (gb := lb) hn qa qb la' lb')
  have GW := hide (G1.trans G2)
  clear KA KB oa ob qa qb la' lb' G1 G2
  go_wp2_with fail
  refine name_calls fun w3 h3 => ?_
  have G3 : Grew w2 w3 := by
    rw [h3]
    repeat' (first | (with_reducible exact Grew.refl _) | (with_reducible refine Grew.setCell ?_ ?_ _) | (with_reducible refine Grew.drewN ?_ _) | (with_reducible refine Grew.reD ?_ _) | (with_reducible refine Grew.alloc ?_ _) | (dsimp only; omega))
  have B3_0 : Hid (Blk w3 (w2.heap.size) 24 [.int .i64 4, .int .i64 0, .string ⟨#[]⟩, .slice pa na ca]) := hide (by (rw [h3]; repeat' (first | (with_reducible assumption) | ((with_reducible refine Blk.new ?_); (first | (with_reducible rfl) | (simp only [World.size_alloc, World.size_setCell, size_drewN]; done))) | (with_reducible refine Blk.alloc ?_ _) | (with_reducible refine Blk.drewN ?_ _) | (with_reducible refine Blk.drew ?_) | (refine Blk.other ?_ (by omega) _) | fail)))
  have B3_1 : Hid (Blk w3 (w2.heap.size + 1) 24 [.int .i64 4, .int .i64 0, .string ⟨#[]⟩, .slice pb nb cb]) := hide (by (rw [h3]; repeat' (first | (with_reducible assumption) | ((with_reducible refine Blk.new ?_); (first | (with_reducible rfl) | (simp only [World.size_alloc, World.size_setCell, size_drewN]; done))) | (with_reducible refine Blk.alloc ?_ _) | (with_reducible refine Blk.drewN ?_ _) | (with_reducible refine Blk.drew ?_) | (refine Blk.other ?_ (by omega) _) | fail)))
  have B3_2 : Hid (Blk w3 (w2.heap.size + 1 + 1) 54 [.string ⟨#[120]⟩, .int .i64 4, .int .i64 0, .string ⟨#[]⟩, .slice pa na ca, .string ⟨#[121]⟩, .int .i64 4, .int .i64 0, .string ⟨#[]⟩, .slice pb nb cb]) := hide (by (rw [h3]; repeat' (first | (with_reducible assumption) | ((with_reducible refine Blk.new ?_); (first | (with_reducible rfl) | (simp only [World.size_alloc, World.size_setCell, size_drewN]; done))) | (with_reducible refine Blk.alloc ?_ _) | (with_reducible refine Blk.drewN ?_ _) | (with_reducible refine Blk.drew ?_) | (refine Blk.other ?_ (by omega) _) | fail)))
  have B3_3 : Hid (Blk w3 (w2.heap.size + 1 + 1 + 1) 58 [.int .i64 4, .int .i64 0, .string ⟨#[120]⟩, .slice none 0 0, .int .i64 4, .int .i64 0, .string ⟨#[121]⟩, .slice none 0 0]) := hide (by (rw [h3]; repeat' (first | (with_reducible assumption) | ((with_reducible refine Blk.new ?_); (first | (with_reducible rfl) | (simp only [World.size_alloc, World.size_setCell, size_drewN]; done))) | (with_reducible refine Blk.alloc ?_ _) | (with_reducible refine Blk.drewN ?_ _) | (with_reducible refine Blk.drew ?_) | (refine Blk.other ?_ (by omega) _) | fail)))
  have B3_4 : Hid (Blk w3 (w2.heap.size + 1 + 1 + 1 + 1) 58 [.int .i64 16, .int .i64 0, .string ⟨#[]⟩, .slice (some ⟨w2.heap.size + 1 + 1 + 1, 0, none⟩) 2 2]) := hide (by (rw [h3]; repeat' (first | (with_reducible assumption) | ((with_reducible refine Blk.new ?_); (first | (with_reducible rfl) | (simp only [World.size_alloc, World.size_setCell, size_drewN]; done))) | (with_reducible refine Blk.alloc ?_ _) | (with_reducible refine Blk.drewN ?_ _) | (with_reducible refine Blk.drew ?_) | (refine Blk.other ?_ (by omega) _) | fail)))
  clear h3
  have EV := hide (EnvL.mk (W := w3) (E := w2.heap.size + 1 + 1) (A := w2.heap.size + 1 + 1 + 1) (pa := pa) (pb := pb) (na := na) (nb := nb) (ca := ca) (cb := cb) (ga := la) (gb := lb) B3_2.out B3_3.out ((ra.out.below G3.1).mono G3.size) ((rb.out.below G3.1).mono G3.size))
  have GW3 := hide (GW.out.trans G3)
  clear GW G3 B3_2 B3_3 ra rb
  generalize w2.heap.size + 1 + 1 + 1 + 1 = TA at *
  generalize w2.heap.size + 1 + 1 + 1 = A at *
  generalize w2.heap.size + 1 + 1 = E at *
  generalize w2.heap.size + 1 = T8 at *
  generalize w2.heap.size = T7 at *
  clear w1
  refine (hide (Eval_both EV.out D.out)).out.mono ?_
  rintro e w4 ⟨p4, m4, c4, rfl, ⟨rfl, -⟩, G4⟩
  have EV4 := hide (EV.out.grew G4)
  have B4_0 := hide (B3_0.out.grew G4)
  have B4_1 := hide (B3_1.out.grew G4)
  have B4_4 := hide (B3_4.out.grew G4)
  have GW4 := hide (GW3.out.trans G4)
  clear EV B3_0 B3_1 B3_4 GW3 G4
  go_wp2_with fail
  refine name_world fun w5 h5 => ?_
  have G5 : Grew w4 w5 := by
    rw [h5]
    repeat' (first | (with_reducible exact Grew.refl _) | (with_reducible refine Grew.setCell ?_ ?_ _) | (with_reducible refine Grew.drewN ?_ _) | (with_reducible refine Grew.reD ?_ _) | (with_reducible refine Grew.alloc ?_ _) | (dsimp only; omega))
  clear h5
  have EV5 := hide (EV4.out.grew G5)
  have B5_0 := hide (B4_0.out.grew G5)
  have B5_1 := hide (B4_1.out.grew G5)
  have B5_4 := hide (B4_4.out.grew G5)
  have GW5 := hide (GW4.out.trans G5)
  clear EV4 B4_0 B4_1 B4_4 GW4 G5
  refine MJ.wp_region_chain (fun W => W.cell? ⟨T7, 3, none⟩ = some (.slice pa na ca) ∧ W.cell? ⟨T8, 3, none⟩ = some (.slice pb nb cb)) [2, 5, 6] [(64, 2), (67, 5), (13, 6)] (StA w5 na nb la lb) (by kernel_rfl) (by kernel_rfl) (by simp) ?h0 ?hJ ?_
  case h0 => exact ⟨World.ownsRow_nil _ _ _ _, ((Grew.refl w5).drew).1⟩
  case hJ =>
    rintro vals W _ hS
    exact ⟨((StA.below hS).cell (p := ⟨T7, 3, none⟩) B5_0.out.lt).trans (B5_0.out.cell 3 rfl), ((StA.below hS).cell (p := ⟨T8, 3, none⟩) B5_1.out.lt).trans (B5_1.out.cell 3 rfl)⟩
  repeat (first | (refine MJ.lex_skip rfl (by rfl) ?_) | (refine MJ.lex_calm rfl (by rfl) (fun K hK => ?_); apply Exists.intro; refine ⟨fun W hW => ?_, ?_⟩; (obtain ⟨hW1, hW2⟩ := hW; go_simp; exact rfl); go_simp; refine hK _ ?_; clear hK K))
  refine MJ.lex_chain 0 rfl (by kernel_rfl) rfl ?_ ?_
  · rintro vs W hP
    replace hP : AP w5 (.slice none 0 0) 0 [] W := hP
    refine does_append_row W _ _ rfl w5.heap.size _ 0 [] rfl hP.1 pa na ca w5.heap.size la rfl (EV5.out.ra.below hP.2) D.out.qa (by omega) hP.2.size ?_
    intro v' w' ho hgr
    exact ⟨by simpa using ho, Below.by hP.2 hP.1 hgr (Nat.le_refl _) (Nat.le_refl _)⟩
  repeat (first | (refine MJ.lex_skip rfl (by rfl) ?_) | (refine MJ.lex_calm rfl (by rfl) (fun K hK => ?_); apply Exists.intro; refine ⟨fun W hW => ?_, ?_⟩; (obtain ⟨hW1, hW2⟩ := hW; go_simp; exact rfl); go_simp; refine hK _ ?_; clear hK K))
  refine MJ.lex_chain 1 rfl (by kernel_rfl) rfl ?_ ?_
  · rintro vs W hP
    replace hP : AP w5 (vs 2) na (vcs la na) W := hP
    refine does_append_row W _ _ rfl w5.heap.size (vs 2) na _ rfl hP.1 pb nb cb w5.heap.size lb rfl (EV5.out.rb.below hP.2) D.out.qb (by omega) hP.2.size ?_
    intro v' w' ho hgr
    exact ⟨by rw [← vcs_cat]; exact ho, Below.by hP.2 hP.1 hgr (Nat.le_refl _) (Nat.le_refl _)⟩
  refine MJ.lex_chain 2 rfl (by kernel_rfl) rfl ?_ ?_
  · rintro vs W hP
    have FIN : Hid (StA w5 na nb la lb (MJ.valsOf [2, 5, 6] vs 2 ++ [vs 5]) W) := hide hP
    clear hP
    simp [go_sem, evS, List.lookup]
    exact FIN.out
  refine MJ.lex_nil ?_
  rintro vs w6 hP
  replace hP : AP w5 (vs 6) (na + nb) (vcs (catG la lb na) (na + nb)) w6 := hP
  obtain ⟨own6, bel6⟩ := hP
  simp only [fillS, List.foldl_cons, List.foldl_nil]
  generalize vs 2 = v2
  generalize vs 5 = v5
  generalize vs 6 = v6 at *
  clear vs
  obtain ⟨p6, c6, rfl, hc6, r6⟩ := own_row own6
  have hc9 := (own_cap own6).2
  have q6 := own_plain own6
  have G6 : Grew w5 w6 := ⟨bel6, trivial⟩
  have EV6 := hide (EV5.out.grew G6)
  have B6_4 := hide (B5_4.out.grew G6)
  have GW6 := hide (GW5.out.trans G6)
  have R6 := hide r6
  have Q6 := hide q6
  clear EV5 B5_0 B5_1 B5_4 GW5 G6 own6 bel6 r6 q6
  obtain ⟨M, hM⟩ : ∃ M, M = na + nb := ⟨_, rfl⟩
  rw [← hM]
  go_simp
  go_wp2
  go_loopg [14] (na + nb + 1) (fun gh vk wr => ∃ (i : Nat), vk = .int .i64 (i : Int) ∧ i ≤ na + nb ∧ na + nb - i < gh ∧ Hid (Grew w6 wr))
  case atStart => exact ⟨0, by go_num, by omega, by omega, hide (Grew.refl _)⟩
  case round =>
    obtain ⟨wo, rfl⟩ : ∃ wo : World, wo = wr := ⟨_, rfl⟩
    obtain ⟨i, rfl, hi, hgh, G⟩ := hrel
    have EVo := hide (EV6.out.grew G.out)
    have Bo := hide (B6_4.out.grew G.out)
    have Ro := hide ((R6.out.below G.out.1).mono G.out.size)
    have GWo := hide (GW6.out.trans G.out)
    clear EV6 B6_4 R6 GW6
    by_cases hlt : i < na + nb
    · have hltz : (i : Int) < ((na + nb : Nat) : Int) := by omega
      have hltz' : (i : Int) < (na : Int) + (nb : Int) := by omega
      have KQ := fun W => hide (Equal_lf 1 (catG la lb na i) W (.inl ⟨rfl, D.out.hG i⟩) (by simp [ckE, D.out.hG i]))
      have KE := fun W b (g : Grew wo W) (hI : Blk W b 58 (opL A (i : Int))) => hide (show Calls Tryd.prog 30 #[(opN 20 b).v, .slice (some ⟨E, 0, none⟩) 2 2] W fun e w' => ∃ p m c, e = .returned (tupV 1 (catG la lb na i) 0 p m c) ∧ HN p m c w' ∧ Grew W w' from
        (Eval_item (k := i) (EVo.out.grew g) D.out hI hlt).mono fun e w' ⟨h1, h2⟩ => ⟨none, 0, 0, h1, ⟨rfl, rfl, rfl⟩, h2⟩)
      obtain ⟨br, off, rfl, hbr, hcs⟩ := Ro.out (by omega)
      obtain ⟨x0, x1, x2, x3⟩ := hcs i hlt
      dsimp only at x0 x1 x2 x3
      generalize catG la lb na i = gi at *
      clear hcs Ro EVo hn60
      go_wp2_with fail
      refine wp_region_two 11 13 [9, 12] [(75, 0), (76, 1), (77, 2), (78, 3), (79, 4), (80, 5), (81, 6), (74, 7), (82, 8), (83, 9), (15, 10), (16, 12)] (PI 20 E A wo.heap.size (i : Int) 1 gi 0 (HN)) (fun _ v => v = .int .i64 0) (SI 1 gi 0 wo.heap.size (HN) wo) (by kernel_rfl) (by kernel_rfl) (by simp) rfl (by omega) (fun k h => by simp at h; omega) SI.ext ?_
      refine lex_two 0 (by omega) (by omega) rfl rfl (PI.grew (fun _ _ _ _ _ h _ => h)) ?_ ?_
      · intro vs W hG hp
        have Q := Bo.out.grew hG
        have d0 := Q.cell 0 rfl
        have fr0 := Q.free 0
        have d1 := Q.cell 1 rfl
        have fr1 := Q.free 1
        have d2 := Q.cell 2 rfl
        have fr2 := Q.free 2
        have d3 := Q.cell 3 rfl
        have fr3 := Q.free 3
        simp [go_sem, evS, List.lookup, PI, Grew.refl, d0, d1, d2, d3]
      refine lex_two 1 (by omega) (by omega) rfl rfl (PI.grew (fun _ _ _ _ _ h _ => h)) ?_ ?_
      · intro vs W hG hp
        simp [go_sem, evS, List.lookup, PI, Grew.refl]
      refine lex_two 2 (by omega) (by omega) rfl rfl (PI.grew (fun _ _ _ _ _ h _ => h)) ?_ ?_
      · intro vs W hG hp
        have h1 := hp 1 (by omega) rfl (by kernel_rfl)
        simp only [PI] at h1
        simp [go_sem, evS, List.lookup, h1]
        refine ((KI _ _).out).mono ?_
        rintro e w' ⟨rfl, g⟩
        exact ⟨_, rfl, g, rfl⟩
      refine lex_two 3 (by omega) (by omega) rfl rfl (PI.grew (fun _ _ _ _ _ h _ => h)) ?_ ?_
      · intro vs W hG hp
        have h0 := hp 0 (by omega) rfl (by kernel_rfl)
        have h2 := hp 2 (by omega) rfl (by kernel_rfl)
        simp only [PI] at h0 h2
        simp [go_sem, evS, List.lookup, h0, h2]
        exact ⟨(Grew.refl _).alloc _, _, rfl, Blk.new rfl⟩
      refine lex_two 4 (by omega) (by omega) rfl rfl (PI.grew (fun _ _ _ _ _ h _ => h)) ?_ ?_
      · intro vs W hG hp
        obtain ⟨b, h2, hB⟩ := hp 3 (by omega) rfl (by kernel_rfl)
        simp [go_sem, evS, List.lookup, h2]
        exact ⟨Grew.refl _, b, rfl, hB⟩
      refine lex_two 5 (by omega) (by omega) rfl rfl (PI.grew (fun _ _ _ _ _ h _ => h)) ?_ ?_
      · intro vs W hG hp
        simp [go_sem, evS, List.lookup, PI, Grew.refl]
      refine lex_two 6 (by omega) (by omega) rfl rfl (PI.grew (fun _ _ _ _ _ h _ => h)) ?_ ?_
      · intro vs W hG hp
        obtain ⟨b, h2, hB⟩ := hp 4 (by omega) rfl (by kernel_rfl)
        have h5 := hp 5 (by omega) rfl (by kernel_rfl)
        simp only [PI] at h5
        simp [go_sem, evS, List.lookup, h2, h5]
        refine ((KE W b hG hB).out).mono ?_
        rintro e w' ⟨p, m, c, rfl, hh, g⟩
        exact ⟨_, rfl, g, p, m, c, rfl, hh⟩
      refine lex_two 7 (by omega) (by omega) rfl rfl (PI.grew (fun _ _ _ _ _ h _ => h)) ?_ ?_
      · intro vs W hG hp
        obtain ⟨p, m, c, h6, hh⟩ := hp 6 (by omega) rfl (by kernel_rfl)
        simp [go_sem, evS, List.lookup, h6]
        exact ⟨Grew.refl _, p, m, c, rfl, hh⟩
      refine lex_two 8 (by omega) (by omega) rfl rfl (PI.grew (fun _ _ _ _ _ h _ => h)) ?_ ?_
      · intro vs W hG hp
        obtain ⟨p, m, c, h6, hh⟩ := hp 7 (by omega) rfl (by kernel_rfl)
        simp [go_sem, evS, List.lookup, h6]
        exact ⟨Grew.refl _, p, m, c, rfl, hh⟩
      refine lex_two_free 9 (by omega) rfl (by omega) rfl SI.ext ?_ ?_
      · intro vs W hp _
        have h1 : ∃ p m c, vs 7 = tupV 1 gi 0 p m c := by
          rcases hp with hp | hp
          · obtain ⟨p, m, c, h, -⟩ := hp 7 (by omega) rfl (by kernel_rfl)
            exact ⟨p, m, c, h⟩
          · obtain ⟨b, p, m, c, -, -, -, -, -, h⟩ := hp
            exact h
        obtain ⟨p, m, c, h1⟩ := h1
        simp [go_sem, evS, List.lookup, h1]
      refine lex_two 10 (by omega) (by omega) rfl rfl (PI.grew (fun _ _ _ _ _ h _ => h)) ?_ ?_
      · intro vs W hG hp
        simp [go_sem, evS, List.lookup]
        exact ⟨(Grew.refl _).alloc _, _, rfl, Blk.new rfl, hG.size⟩
      refine lex_two_store (by omega) rfl (by kernel_rfl) rfl SI.ext ?_ ?_
      · intro vs W hG hp
        have H8 := hp 8 (by omega) rfl
        have H7 := hp 7 (by omega) rfl
        have H10 := hp 10 (by omega) rfl
        clear hp
        have ⟨p, m, c, hv8, hh⟩ := H8
        have ⟨p', m', c', hv7, _⟩ := H7
        have ⟨b, hv4, hB4, hle⟩ := H10
        clear H8 H7 H10
        have d0 := hB4.cell 0 rfl
        have fr0 := hB4.free 0
        have d1 := hB4.cell 1 rfl
        have fr1 := hB4.free 1
        have d2 := hB4.cell 2 rfl
        have fr2 := hB4.free 2
        have d3 := hB4.cell 3 rfl
        have fr3 := hB4.free 3
        have hlt := hB4.lt
        simp [go_sem, evS, List.lookup, hv8, hv4, d0, d1, d2, d3, fr0, fr1, fr2, fr3]
        exact ⟨b, p, m, c, hv4, (((hB4.set' 0 _ rfl).set' 1 _ rfl).set' 2 _ rfl).set' 3 _ rfl, hh, (((hG.setCell hle _).setCell hle _).setCell hle _).setCell hle _, hle, p', m', c', hv7⟩
      refine lex_two_free 12 (by omega) rfl (by omega) rfl SI.ext ?_ ?_
      · intro vs W _ hp
        have h4 : vs 9 = .int .i64 0 := hp 9 rfl (by kernel_rfl)
        simp [go_sem, evS, List.lookup, h4]
      refine lex_nil ?_
      rintro vs w8 ⟨⟨h, -, -⟩ | ⟨-, -, b8, p8, m8, c8, hv10, hB8, hH8, hG8, -, -⟩, hA⟩
      · cases h
      replace hA := hA 12 rfl rfl
      simp only [fillS, List.foldl_cons, List.foldl_nil, hv10, hA]
      generalize vs 0 = vx0
      generalize vs 1 = vx1
      generalize vs 2 = vx2
      generalize vs 3 = vx3
      generalize vs 4 = vx4
      generalize vs 5 = vx5
      generalize vs 6 = vx6
      generalize vs 7 = vx7
      generalize vs 8 = vx8
      generalize vs 9 = vx9
      clear hv10 hA vs
      obtain ⟨rfl, rfl, rfl⟩ := hH8
      have hbr8 : br < w8.heap.size := Nat.lt_of_lt_of_le hbr hG8.size
      have u0 := cell_gr hbr8 ((hG8.cell br _ hbr).trans x0)
      have u1 := cell_gr hbr8 ((hG8.cell br _ hbr).trans x1)
      have u2 := cell_gr hbr8 ((hG8.cell br _ hbr).trans x2)
      have u3 := cell_gr hbr8 ((hG8.cell br _ hbr).trans x3)
      have G8 := hide (G.out.trans hG8)
      have B8_0 := hB8
      clear KE hG8 hB8 x0 x1 x2 x3 G Bo GWo
      have t8_0 := B8_0.lt
      have d8_0_0 := B8_0.cell 0 rfl
      have e8_0_0 := B8_0.free 0
      have d8_0_1 := B8_0.cell 1 rfl
      have e8_0_1 := B8_0.free 1
      have d8_0_2 := B8_0.cell 2 rfl
      have e8_0_2 := B8_0.free 2
      have d8_0_3 := B8_0.cell 3 rfl
      have e8_0_3 := B8_0.free 3
      go_simp
      go_wp2_with fail
      have g8_0_0 := fun m os => (B8_0.grow m os).cell 0 rfl
      have g8_0_1 := fun m os => (B8_0.grow m os).cell 1 rfl
      have g8_0_2 := fun m os => (B8_0.grow m os).cell 2 rfl
      have g8_0_3 := fun m os => (B8_0.grow m os).cell 3 rfl
      refine wp_region_calm (by kernel_rfl) (by kernel_rfl) ?_
      repeat (first | (refine lex_skip rfl (by rfl) ?_) | (refine lex_calm rfl (by rfl) (fun K hK => ?_); go_simp; first | (refine hK _ ?_; clear hK K) | (apply Exists.intro; refine ⟨fun _ _ => ?_, hK _ ?_⟩; (with_reducible exact (KQ _).out); clear hK K)))
      refine lex_nil ?_
      intro w9 G9
      have B9_0 : Blk w9 (b8) 24 [.int .i64 1, .int .i64 gi, .string ⟨#[]⟩, .slice none 0 0] := B8_0.grew G9
      have z9 := G9.size
      replace G9 := hide G9
      have t9_0 := B9_0.lt
      have d9_0_0 := B9_0.cell 0 rfl
      have e9_0_0 := B9_0.free 0
      have d9_0_1 := B9_0.cell 1 rfl
      have e9_0_1 := B9_0.free 1
      have d9_0_2 := B9_0.cell 2 rfl
      have e9_0_2 := B9_0.free 2
      have d9_0_3 := B9_0.cell 3 rfl
      have e9_0_3 := B9_0.free 3
      clear u0 u1 u2 u3
      go_wp2
      go_roundg (na + nb - i)
      case measure => omega
      case rel => exact ⟨i + 1, by go_num, by omega, by omega, hide (G8.out.trans G9.out)⟩
    · have hltz : ¬ (i : Int) < ((na + nb : Nat) : Int) := by omega
      have hltz' : ¬ (i : Int) < (na : Int) + (nb : Int) := by omega
      have hin : i = na + nb := by omega
      subst hin
      by_cases hk1 : 100 < k
      · have hk1z : (100 : Int) < (k : Int) := by omega
        go_wp2_with fail
        refine ((AW _).out).mono ?_
        rintro e w9 ⟨rfl, G9⟩
        go_wp2
        go_ret
        exact ⟨rfl, (GWo.out.trans G9).1⟩
      · have hk1z : ¬ (100 : Int) < (k : Int) := by omega
        go_wp2_with fail
        by_cases hlt2 : k < na + nb
        · have hk2 : ¬ ((na + nb : Nat) : Int) ≤ (k : Int) := by omega
          have hk2' : ¬ (na : Int) + (nb : Int) ≤ (k : Int) := by omega
          have KE := fun W b (g : Grew wo W) (hI : Blk W b 58 (opL A (k : Int))) => hide (show Calls Tryd.prog 30 #[(opN 21 b).v, .slice (some ⟨E, 0, none⟩) 2 2] W fun e w' => ∃ p m c, e = .returned (tupV 4 0 0 p m c) ∧ HL (k + (na + nb - (k + 1))) (dropG (catG la lb na) k) p m c w' ∧ Grew W w' from
            (Eval_drop (k := k) (EVo.out.grew g) D.out hI hlt2).mono fun e w' ⟨p, m, c, h1, h2, h3⟩ => ⟨p, m, c, h1, ⟨h2.1, h2.1 ▸ h2.row.1⟩, h3⟩)
          refine wp_region_two 11 13 [9, 12] [(99, 0), (100, 1), (101, 2), (102, 3), (103, 4), (104, 5), (105, 6), (98, 7), (106, 8), (107, 9), (17, 10), (18, 12)] (PI 21 E A wo.heap.size (k : Int) 4 0 0 (HL (k + (na + nb - (k + 1))) (dropG (catG la lb na) k))) (fun _ v => v = .int .i64 0) (SI 4 0 0 wo.heap.size (HL (k + (na + nb - (k + 1))) (dropG (catG la lb na) k)) wo) (by kernel_rfl) (by kernel_rfl) (by simp) rfl (by omega) (fun k h => by simp at h; omega) SI.ext ?_
          refine lex_two 0 (by omega) (by omega) rfl rfl (PI.grew HL.grew) ?_ ?_
          · intro vs W hG hp
            have Q := Bo.out.grew hG
            have d0 := Q.cell 0 rfl
            have fr0 := Q.free 0
            have d1 := Q.cell 1 rfl
            have fr1 := Q.free 1
            have d2 := Q.cell 2 rfl
            have fr2 := Q.free 2
            have d3 := Q.cell 3 rfl
            have fr3 := Q.free 3
            simp [go_sem, evS, List.lookup, PI, Grew.refl, d0, d1, d2, d3]
          refine lex_two 1 (by omega) (by omega) rfl rfl (PI.grew HL.grew) ?_ ?_
          · intro vs W hG hp
            simp [go_sem, evS, List.lookup, PI, Grew.refl]
          refine lex_two 2 (by omega) (by omega) rfl rfl (PI.grew HL.grew) ?_ ?_
          · intro vs W hG hp
            have h1 := hp 1 (by omega) rfl (by kernel_rfl)
            simp only [PI] at h1
            simp [go_sem, evS, List.lookup, h1]
            refine ((KI _ _).out).mono ?_
            rintro e w' ⟨rfl, g⟩
            exact ⟨_, rfl, g, rfl⟩
          refine lex_two 3 (by omega) (by omega) rfl rfl (PI.grew HL.grew) ?_ ?_
          · intro vs W hG hp
            have h0 := hp 0 (by omega) rfl (by kernel_rfl)
            have h2 := hp 2 (by omega) rfl (by kernel_rfl)
            simp only [PI] at h0 h2
            simp [go_sem, evS, List.lookup, h0, h2]
            exact ⟨(Grew.refl _).alloc _, _, rfl, Blk.new rfl⟩
          refine lex_two 4 (by omega) (by omega) rfl rfl (PI.grew HL.grew) ?_ ?_
          · intro vs W hG hp
            obtain ⟨b, h2, hB⟩ := hp 3 (by omega) rfl (by kernel_rfl)
            simp [go_sem, evS, List.lookup, h2]
            exact ⟨Grew.refl _, b, rfl, hB⟩
          refine lex_two 5 (by omega) (by omega) rfl rfl (PI.grew HL.grew) ?_ ?_
          · intro vs W hG hp
            simp [go_sem, evS, List.lookup, PI, Grew.refl]
          refine lex_two 6 (by omega) (by omega) rfl rfl (PI.grew HL.grew) ?_ ?_
          · intro vs W hG hp
            obtain ⟨b, h2, hB⟩ := hp 4 (by omega) rfl (by kernel_rfl)
            have h5 := hp 5 (by omega) rfl (by kernel_rfl)
            simp only [PI] at h5
            simp [go_sem, evS, List.lookup, h2, h5]
            refine ((KE W b hG hB).out).mono ?_
            rintro e w' ⟨p, m, c, rfl, hh, g⟩
            exact ⟨_, rfl, g, p, m, c, rfl, hh⟩
          refine lex_two 7 (by omega) (by omega) rfl rfl (PI.grew HL.grew) ?_ ?_
          · intro vs W hG hp
            obtain ⟨p, m, c, h6, hh⟩ := hp 6 (by omega) rfl (by kernel_rfl)
            simp [go_sem, evS, List.lookup, h6]
            exact ⟨Grew.refl _, p, m, c, rfl, hh⟩
          refine lex_two 8 (by omega) (by omega) rfl rfl (PI.grew HL.grew) ?_ ?_
          · intro vs W hG hp
            obtain ⟨p, m, c, h6, hh⟩ := hp 7 (by omega) rfl (by kernel_rfl)
            simp [go_sem, evS, List.lookup, h6]
            exact ⟨Grew.refl _, p, m, c, rfl, hh⟩
          refine lex_two_free 9 (by omega) rfl (by omega) rfl SI.ext ?_ ?_
          · intro vs W hp _
            have h1 : ∃ p m c, vs 7 = tupV 4 0 0 p m c := by
              rcases hp with hp | hp
              · obtain ⟨p, m, c, h, -⟩ := hp 7 (by omega) rfl (by kernel_rfl)
                exact ⟨p, m, c, h⟩
              · obtain ⟨b, p, m, c, -, -, -, -, -, h⟩ := hp
                exact h
            obtain ⟨p, m, c, h1⟩ := h1
            simp [go_sem, evS, List.lookup, h1]
          refine lex_two 10 (by omega) (by omega) rfl rfl (PI.grew HL.grew) ?_ ?_
          · intro vs W hG hp
            simp [go_sem, evS, List.lookup]
            exact ⟨(Grew.refl _).alloc _, _, rfl, Blk.new rfl, hG.size⟩
          refine lex_two_store (by omega) rfl (by kernel_rfl) rfl SI.ext ?_ ?_
          · intro vs W hG hp
            have H8 := hp 8 (by omega) rfl
            have H7 := hp 7 (by omega) rfl
            have H10 := hp 10 (by omega) rfl
            clear hp
            have ⟨p, m, c, hv8, hh⟩ := H8
            have ⟨p', m', c', hv7, _⟩ := H7
            have ⟨b, hv4, hB4, hle⟩ := H10
            clear H8 H7 H10
            have d0 := hB4.cell 0 rfl
            have fr0 := hB4.free 0
            have d1 := hB4.cell 1 rfl
            have fr1 := hB4.free 1
            have d2 := hB4.cell 2 rfl
            have fr2 := hB4.free 2
            have d3 := hB4.cell 3 rfl
            have fr3 := hB4.free 3
            have hlt := hB4.lt
            simp [go_sem, evS, List.lookup, hv8, hv4, d0, d1, d2, d3, fr0, fr1, fr2, fr3]
            exact ⟨b, p, m, c, hv4, (((hB4.set' 0 _ rfl).set' 1 _ rfl).set' 2 _ rfl).set' 3 _ rfl, HL.set _ _ _ _ _ _ _ _ _ hh hB4, (((hG.setCell hle _).setCell hle _).setCell hle _).setCell hle _, hle, p', m', c', hv7⟩
          refine lex_two_free 12 (by omega) rfl (by omega) rfl SI.ext ?_ ?_
          · intro vs W _ hp
            have h4 : vs 9 = .int .i64 0 := hp 9 rfl (by kernel_rfl)
            simp [go_sem, evS, List.lookup, h4]
          refine lex_nil ?_
          rintro vs w8 ⟨⟨h, -, -⟩ | ⟨-, -, b8, p8, m8, c8, hv10, hB8, hH8, hG8, -, -⟩, hA⟩
          · cases h
          replace hA := hA 12 rfl rfl
          simp only [fillS, List.foldl_cons, List.foldl_nil, hv10, hA]
          generalize vs 0 = vx0
          generalize vs 1 = vx1
          generalize vs 2 = vx2
          generalize vs 3 = vx3
          generalize vs 4 = vx4
          generalize vs 5 = vx5
          generalize vs 6 = vx6
          generalize vs 7 = vx7
          generalize vs 8 = vx8
          generalize vs 9 = vx9
          clear hv10 hA vs
          obtain ⟨rfl, hr8⟩ := hH8
          have R8 := hide ((Ro.out.below hG8.1).mono hG8.size)
          have H8 := hide hr8
          have G8 := hide (GWo.out.trans hG8)
          have B8_0 := hB8
          clear KE hG8 hB8 hr8 Ro G Bo GWo EVo
          obtain ⟨br, off, rfl, hbr, -⟩ := R8.out (by omega)
          have t8_0 := B8_0.lt
          have d8_0_0 := B8_0.cell 0 rfl
          have e8_0_0 := B8_0.free 0
          have d8_0_1 := B8_0.cell 1 rfl
          have e8_0_1 := B8_0.free 1
          have d8_0_2 := B8_0.cell 2 rfl
          have e8_0_2 := B8_0.free 2
          have d8_0_3 := B8_0.cell 3 rfl
          have e8_0_3 := B8_0.free 3
          have wk1 : IntKind.i64.wrap ((k : Int) + 1) = (k : Int) + 1 := wr (by omega) (by omega)
          go_simp
          go_wp2_with fail
          have hkc : k ≤ c6 := by omega
          have hkm : k + 1 ≤ na + nb := by omega
          have hpt : ∃ p7 c7, Plain p7 ∧ Row w8 w8.heap.size p7 (na + nb - (k + 1)) (fun i => nd 1 (catG la lb na (k + 1 + i))) ∧ (if c6 = k + 1 then Value.slice (some ⟨br, off, none⟩) (na + nb - (k + 1)) (c6 - (k + 1)) else Value.slice (some ⟨br, off + (k + 1) * 4, none⟩) (na + nb - (k + 1)) (c6 - (k + 1))) = .slice p7 (na + nb - (k + 1)) c7 := by
            by_cases hck : c6 = k + 1
            · rw [if_pos hck]
              exact ⟨_, _, fun q e => by cases e; rfl, fun h => absurd h (by omega), rfl⟩
            · rw [if_neg hck]
              exact ⟨_, _, fun q e => by cases e; rfl, R8.out.drop hlt2, rfl⟩
          obtain ⟨p7, c7, q7, r7, e7⟩ := hpt
          refine MJ.wp_region_chain (fun _ => True) [3, 8, 9] [(120, 3), (125, 8), (19, 9)] (StA w8 k (na + nb - (k + 1)) (catG la lb na) (fun i => catG la lb na (k + 1 + i))) (by kernel_rfl) (by kernel_rfl) (by simp) ?h0 ?hJ ?_
          case h0 => exact ⟨World.ownsRow_nil _ _ _ _, ((Grew.refl w8).drew).1⟩
          case hJ => exact fun _ _ _ _ => trivial
          iterate 2 (refine MJ.lex_calm rfl (by rfl) (fun K hK => ?_); apply Exists.intro; refine ⟨fun W hW => ?_, ?_⟩; (go_simp; exact rfl); go_simp; refine hK _ ?_; clear hK K)
          refine MJ.lex_calm rfl (by rfl) (fun K hK => ?_)
          refine ⟨.slice (some ⟨br, off, none⟩) k c6, fun W hW => ?_, ?_⟩
          · go_simp
            
          go_simp
          refine hK _ ?_
          clear hK K
          refine MJ.lex_chain 0 rfl (by kernel_rfl) rfl ?_ ?_
          · rintro vs W hP
            replace hP : AP w8 (.slice none 0 0) 0 [] W := hP
            refine does_append_row W _ _ rfl w8.heap.size _ 0 [] rfl hP.1 (some ⟨br, off, none⟩) k c6 w8.heap.size (catG la lb na) rfl ((R8.out.take (by omega)).below hP.2) (fun q e => by cases e; rfl) (by omega) hP.2.size ?_
            intro v' w' ho hgr
            exact ⟨by simpa using ho, Below.by hP.2 hP.1 hgr (Nat.le_refl _) (Nat.le_refl _)⟩
          iterate 3 (refine MJ.lex_calm rfl (by rfl) (fun K hK => ?_); apply Exists.intro; refine ⟨fun W hW => ?_, ?_⟩; (go_simp; exact rfl); go_simp; refine hK _ ?_; clear hK K)
          refine MJ.lex_calm rfl (by rfl) (fun K hK => ?_)
          refine ⟨.slice p7 (na + nb - (k + 1)) c7, fun W hW => ?_, ?_⟩
          · go_simp
            rw [if_pos ⟨by omega, by omega⟩]
            refine ⟨rfl, ?_⟩
            rw [← e7]
            by_cases hck : c6 = k + 1
            · rw [if_pos hck, if_pos hck]
            · rw [if_neg hck, if_neg hck]
          go_simp
          refine hK _ ?_
          clear hK K
          refine MJ.lex_chain 1 rfl (by kernel_rfl) rfl ?_ ?_
          · rintro vs W hP
            replace hP : AP w8 (vs 3) k (vcs (catG la lb na) k) W := hP
            refine does_append_row W _ _ rfl w8.heap.size (vs 3) k _ rfl hP.1 p7 (na + nb - (k + 1)) c7 w8.heap.size (fun i => catG la lb na (k + 1 + i)) rfl (r7.below hP.2) q7 (by omega) hP.2.size ?_
            intro v' w' ho hgr
            exact ⟨by rw [← vcs_cat]; exact ho, Below.by hP.2 hP.1 hgr (Nat.le_refl _) (Nat.le_refl _)⟩
          refine MJ.lex_chain 2 rfl (by kernel_rfl) rfl ?_ ?_
          · rintro vs W hP
            have FIN : Hid (StA w8 k (na + nb - (k + 1)) (catG la lb na) (fun i => catG la lb na (k + 1 + i)) (MJ.valsOf [3, 8, 9] vs 2 ++ [vs 8]) W) := hide hP
            clear hP
            simp [go_sem, evS, List.lookup]
            exact FIN.out
          refine MJ.lex_nil ?_
          rintro vs w9 hP
          replace hP : AP w8 (vs 9) (k + (na + nb - (k + 1))) (vcs (dropG (catG la lb na) k) (k + (na + nb - (k + 1)))) w9 := hP
          obtain ⟨own9, bel9⟩ := hP
          simp only [fillS, List.foldl_cons, List.foldl_nil]
          generalize vs 3 = v3
          generalize vs 8 = v8
          generalize vs 9 = v9 at *
          clear vs
          obtain ⟨p9, c9, rfl, hc9', r9⟩ := own_row own9
          have G9 : Grew w8 w9 := ⟨bel9, trivial⟩
          have KS := hide (SameValues_ls p8 p9 (k + (na + nb - (k + 1))) c8 c9 (dropG (catG la lb na) k) w9 (by omega) ((H8.out.below G9.1).mono G9.size) r9)
          have B9_0 := B8_0.grew G9
          have GW9 := hide (G8.out.trans G9)
          clear own9 bel9 r9 G9 G8 H8 R8 r7 e7 B8_0 d8_0_0 d8_0_1 d8_0_2 d8_0_3 e8_0_0 e8_0_1 e8_0_2 e8_0_3 t8_0
          have t9_0 := B9_0.lt
          have d9_0_0 := B9_0.cell 0 rfl
          have e9_0_0 := B9_0.free 0
          have d9_0_1 := B9_0.cell 1 rfl
          have e9_0_1 := B9_0.free 1
          have d9_0_2 := B9_0.cell 2 rfl
          have e9_0_2 := B9_0.free 2
          have d9_0_3 := B9_0.cell 3 rfl
          have e9_0_3 := B9_0.free 3
          go_simp
          go_wp2_with fail
          refine (KS.out).mono ?_
          rintro e w10 ⟨rfl, G10⟩
          go_wp2_with fail
          refine ((AW _).out).mono ?_
          rintro e w11 ⟨rfl, G11⟩
          go_wp2
          go_ret
          exact ⟨rfl, ((GW9.out.trans G10).trans G11).1⟩
        · have hk2 : ((na + nb : Nat) : Int) ≤ (k : Int) := by omega
          have hk2' : (na : Int) + (nb : Int) ≤ (k : Int) := by omega
          have KE := fun W b (g : Grew wo W) (hI : Blk W b 58 (opL A (k : Int))) => hide (show Calls Tryd.prog 30 #[(opN 21 b).v, .slice (some ⟨E, 0, none⟩) 2 2] W fun e w' => ∃ p m c, e = .returned (tupV 0 0 1 p m c) ∧ HN p m c w' ∧ Grew W w' from
            (Eval_out (k := (k : Int)) (EVo.out.grew g) D.out hI hk2 (by omega)).mono fun e w' ⟨h1, h2⟩ => ⟨none, 0, 0, h1, ⟨rfl, rfl, rfl⟩, h2⟩)
          refine wp_region_two 11 13 [9, 12] [(99, 0), (100, 1), (101, 2), (102, 3), (103, 4), (104, 5), (105, 6), (98, 7), (106, 8), (107, 9), (17, 10), (18, 12)] (PI 21 E A wo.heap.size (k : Int) 0 0 1 (HN)) (fun _ v => v = .int .i64 1) (SI 0 0 1 wo.heap.size (HN) wo) (by kernel_rfl) (by kernel_rfl) (by simp) rfl (by omega) (fun k h => by simp at h; omega) SI.ext ?_
          refine lex_two 0 (by omega) (by omega) rfl rfl (PI.grew (fun _ _ _ _ _ h _ => h)) ?_ ?_
          · intro vs W hG hp
            have Q := Bo.out.grew hG
            have d0 := Q.cell 0 rfl
            have fr0 := Q.free 0
            have d1 := Q.cell 1 rfl
            have fr1 := Q.free 1
            have d2 := Q.cell 2 rfl
            have fr2 := Q.free 2
            have d3 := Q.cell 3 rfl
            have fr3 := Q.free 3
            simp [go_sem, evS, List.lookup, PI, Grew.refl, d0, d1, d2, d3]
          refine lex_two 1 (by omega) (by omega) rfl rfl (PI.grew (fun _ _ _ _ _ h _ => h)) ?_ ?_
          · intro vs W hG hp
            simp [go_sem, evS, List.lookup, PI, Grew.refl]
          refine lex_two 2 (by omega) (by omega) rfl rfl (PI.grew (fun _ _ _ _ _ h _ => h)) ?_ ?_
          · intro vs W hG hp
            have h1 := hp 1 (by omega) rfl (by kernel_rfl)
            simp only [PI] at h1
            simp [go_sem, evS, List.lookup, h1]
            refine ((KI _ _).out).mono ?_
            rintro e w' ⟨rfl, g⟩
            exact ⟨_, rfl, g, rfl⟩
          refine lex_two 3 (by omega) (by omega) rfl rfl (PI.grew (fun _ _ _ _ _ h _ => h)) ?_ ?_
          · intro vs W hG hp
            have h0 := hp 0 (by omega) rfl (by kernel_rfl)
            have h2 := hp 2 (by omega) rfl (by kernel_rfl)
            simp only [PI] at h0 h2
            simp [go_sem, evS, List.lookup, h0, h2]
            exact ⟨(Grew.refl _).alloc _, _, rfl, Blk.new rfl⟩
          refine lex_two 4 (by omega) (by omega) rfl rfl (PI.grew (fun _ _ _ _ _ h _ => h)) ?_ ?_
          · intro vs W hG hp
            obtain ⟨b, h2, hB⟩ := hp 3 (by omega) rfl (by kernel_rfl)
            simp [go_sem, evS, List.lookup, h2]
            exact ⟨Grew.refl _, b, rfl, hB⟩
          refine lex_two 5 (by omega) (by omega) rfl rfl (PI.grew (fun _ _ _ _ _ h _ => h)) ?_ ?_
          · intro vs W hG hp
            simp [go_sem, evS, List.lookup, PI, Grew.refl]
          refine lex_two 6 (by omega) (by omega) rfl rfl (PI.grew (fun _ _ _ _ _ h _ => h)) ?_ ?_
          · intro vs W hG hp
            obtain ⟨b, h2, hB⟩ := hp 4 (by omega) rfl (by kernel_rfl)
            have h5 := hp 5 (by omega) rfl (by kernel_rfl)
            simp only [PI] at h5
            simp [go_sem, evS, List.lookup, h2, h5]
            refine ((KE W b hG hB).out).mono ?_
            rintro e w' ⟨p, m, c, rfl, hh, g⟩
            exact ⟨_, rfl, g, p, m, c, rfl, hh⟩
          refine lex_two 7 (by omega) (by omega) rfl rfl (PI.grew (fun _ _ _ _ _ h _ => h)) ?_ ?_
          · intro vs W hG hp
            obtain ⟨p, m, c, h6, hh⟩ := hp 6 (by omega) rfl (by kernel_rfl)
            simp [go_sem, evS, List.lookup, h6]
            exact ⟨Grew.refl _, p, m, c, rfl, hh⟩
          refine lex_two 8 (by omega) (by omega) rfl rfl (PI.grew (fun _ _ _ _ _ h _ => h)) ?_ ?_
          · intro vs W hG hp
            obtain ⟨p, m, c, h6, hh⟩ := hp 7 (by omega) rfl (by kernel_rfl)
            simp [go_sem, evS, List.lookup, h6]
            exact ⟨Grew.refl _, p, m, c, rfl, hh⟩
          refine lex_two_free 9 (by omega) rfl (by omega) rfl SI.ext ?_ ?_
          · intro vs W hp _
            have h1 : ∃ p m c, vs 7 = tupV 0 0 1 p m c := by
              rcases hp with hp | hp
              · obtain ⟨p, m, c, h, -⟩ := hp 7 (by omega) rfl (by kernel_rfl)
                exact ⟨p, m, c, h⟩
              · obtain ⟨b, p, m, c, -, -, -, -, -, h⟩ := hp
                exact h
            obtain ⟨p, m, c, h1⟩ := h1
            simp [go_sem, evS, List.lookup, h1]
          refine lex_two 10 (by omega) (by omega) rfl rfl (PI.grew (fun _ _ _ _ _ h _ => h)) ?_ ?_
          · intro vs W hG hp
            simp [go_sem, evS, List.lookup]
            exact ⟨(Grew.refl _).alloc _, _, rfl, Blk.new rfl, hG.size⟩
          refine lex_two_store (by omega) rfl (by kernel_rfl) rfl SI.ext ?_ ?_
          · intro vs W hG hp
            have H8 := hp 8 (by omega) rfl
            have H7 := hp 7 (by omega) rfl
            have H10 := hp 10 (by omega) rfl
            clear hp
            have ⟨p, m, c, hv8, hh⟩ := H8
            have ⟨p', m', c', hv7, _⟩ := H7
            have ⟨b, hv4, hB4, hle⟩ := H10
            clear H8 H7 H10
            have d0 := hB4.cell 0 rfl
            have fr0 := hB4.free 0
            have d1 := hB4.cell 1 rfl
            have fr1 := hB4.free 1
            have d2 := hB4.cell 2 rfl
            have fr2 := hB4.free 2
            have d3 := hB4.cell 3 rfl
            have fr3 := hB4.free 3
            have hlt := hB4.lt
            simp [go_sem, evS, List.lookup, hv8, hv4, d0, d1, d2, d3, fr0, fr1, fr2, fr3]
            exact ⟨b, p, m, c, hv4, (((hB4.set' 0 _ rfl).set' 1 _ rfl).set' 2 _ rfl).set' 3 _ rfl, hh, (((hG.setCell hle _).setCell hle _).setCell hle _).setCell hle _, hle, p', m', c', hv7⟩
          refine lex_two_free 12 (by omega) rfl (by omega) rfl SI.ext ?_ ?_
          · intro vs W _ hp
            have h4 : vs 9 = .int .i64 1 := hp 9 rfl (by kernel_rfl)
            simp [go_sem, evS, List.lookup, h4]
          refine lex_nil ?_
          rintro vs w8 ⟨⟨h, -, -⟩ | ⟨-, -, b8, p8, m8, c8, hv10, hB8, hH8, hG8, -, -⟩, hA⟩
          · cases h
          replace hA := hA 12 rfl rfl
          simp only [fillS, List.foldl_cons, List.foldl_nil, hv10, hA]
          generalize vs 0 = vx0
          generalize vs 1 = vx1
          generalize vs 2 = vx2
          generalize vs 3 = vx3
          generalize vs 4 = vx4
          generalize vs 5 = vx5
          generalize vs 6 = vx6
          generalize vs 7 = vx7
          generalize vs 8 = vx8
          generalize vs 9 = vx9
          clear hv10 hA vs
          obtain ⟨rfl, rfl, rfl⟩ := hH8
          have G8 := hide (GWo.out.trans hG8)
          clear KE hG8 hB8 Ro G Bo GWo EVo
          go_simp
          go_wp2_with fail
          refine ((AW _).out).mono ?_
          rintro e w9 ⟨rfl, G9⟩
          go_wp2
          go_ret
          exact ⟨rfl, (G8.out.trans G9).1⟩
end Go.Proofs.YtnhhmndnmkkhlaaDoor
