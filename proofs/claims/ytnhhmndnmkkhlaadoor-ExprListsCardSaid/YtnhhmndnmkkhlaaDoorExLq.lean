/- clone at a list: a row of its own. -/
import Derived.Test.YtnhhmndnmkkhlaaDoorExLp
namespace Go.Proofs.YtnhhmndnmkkhlaaDoor
open Go.RowKit Go.Sort
set_option linter.unusedVariables false
set_option linter.unusedSimpArgs false

set_option maxRecDepth 20000 in
set_option maxHeartbeats 1000000 in
theorem clone_own (p : Option Addr) (m cc : Nat) (g : Nat → Int) (w : World) (hm : m ≤ 100) (hr : Row w w.heap.size p m (fun i => nd 1 (g i))) :
    Calls Tryd.prog 46 #[lsV p m cc] w fun e w' => ∃ p' c', e = .returned (lsV p' m c') ∧ w'.ownsRow (w.heap.size + 2) 24 4 (.slice p' m c') m (vcs g m) ∧ Grew w w' := by
  have HR := hide hr
  clear hr
  obtain ⟨i0, hi, hz0, hz1, hz2⟩ := info_parts info_value
  go_enter Tryd.func46, Tryd.ntmps46
  go_wp2
  refine name_world fun w1 h1 => ?_
  have b0 : Hid (Blk w1 w.heap.size 24 [.int .i64 4, .int .i64 0, .string ⟨#[]⟩, .slice p m cc]) := by
    refine hide ?_; rw [h1]; repeat' (first | (with_reducible assumption) | ((with_reducible refine Blk.new ?_); (first | (with_reducible rfl) | (simp only [World.size_alloc, World.size_setCell, size_drewN]; done))) | (with_reducible refine Blk.alloc ?_ _) | (refine Blk.other ?_ (by omega) _) | fail)
  have b1 : Hid (Blk w1 (w.heap.size + 1) 24 [.int .i64 0, .int .i64 0, .string ⟨#[]⟩, .slice none 0 0]) := by
    refine hide ?_; rw [h1]; repeat' (first | (with_reducible assumption) | ((with_reducible refine Blk.new ?_); (first | (with_reducible rfl) | (simp only [World.size_alloc, World.size_setCell, size_drewN]; done))) | (with_reducible refine Blk.alloc ?_ _) | (refine Blk.other ?_ (by omega) _) | fail)
  have G1 : Hid (Below w.heap.size w w1) := by rw [h1]; exact (((Grew.refl _).alloc _).alloc _).1
  have sz1 : w1.heap.size = w.heap.size + 2 := by rw [h1]; simp
  clear h1
  go_loopg [3, 9] (m + 1) (fun gh v vk wr => ∃ (i : Nat), vk = .int .i64 (i : Int) ∧ i ≤ m ∧ m - i < gh ∧ Hid (wr.ownsRow (w.heap.size + 2) 24 4 v i (vcs g i)) ∧ Hid (Below w.heap.size w wr) ∧ Hid (Blk wr w.heap.size 24 [.int .i64 4, .int .i64 0, .string ⟨#[]⟩, .slice p m cc]) ∧ Hid (Blk wr (w.heap.size + 1) 24 [.int .i64 0, .int .i64 0, .string ⟨#[]⟩, .slice none 0 0]) ∧ w.heap.size + 2 ≤ wr.heap.size)
  case atStart => exact ⟨0, by go_num, by omega, by omega, hide (World.ownsRow_nil _ _ _ _), G1, b0, b1, by omega⟩
  case round =>
    clear b0 b1 G1 sz1
    obtain ⟨wo, rfl⟩ : ∃ wo : World, wo = wr := ⟨_, rfl⟩
    obtain ⟨i, rfl, hi', hgh, HO, G, V0, V1, hsz⟩ := hrel
    by_cases hlt : i < m
    · have hltz : (i : Int) < (m : Int) := by omega
      obtain ⟨br, off, rfl, hbr, hcs⟩ := (HR.out.below G.out) (by omega)
      obtain ⟨x0, x1, x2, x3⟩ := hcs i hlt
      dsimp only at x0 x1 x2 x3
      have KI := fun W => hide (clone_lf 1 (g i) W)
      have hvs := hide (vcs_succ g i)
      generalize hgi : g i = gi at *
      have G' := G.out
      clear hcs hgi
      go_wp2_with fail
      refine name_calls fun w5 h5 => ?_
      have G5 : Grew wo w5 := by rw [h5]; exact (Grew.refl _).alloc _
      clear h5
      refine ((KI w5).out).mono ?_
      rintro e w6 ⟨rfl, G6⟩
      have GG := G5.trans G6
      have hown := own_grew HO.out GG
      have Y0 := hide (V0.out.grew GG)
      have Y1 := hide (V1.out.grew GG)
      have BB := hide (Grew.to G' GG (Nat.le_refl _))
      have hs6 := GG.size
      clear HO V0 V1 G G' G5 G6 GG KI x0 x1 x2 x3
      go_wp2_with (at_builtin; refine wpList_append_own _ rfl _ _ 22 rfl (w.heap.size + 2) 24 i0 (nv 0 0) 4 56 Tryd.underlying22 hi hz0 hz1 hz2 rfl (by decide) _ _ _ rfl (hown.alloc _) ⟨w6.heap.size, 0, none⟩ 1 1 (vc4 gi) rfl rfl (cells_new (Blk.new rfl)) (fun x hx => by simp at hx; rcases hx with rfl | rfl | rfl | rfl <;> rfl) (by unfold maxLen; omega) (by omega) (by simp; omega) ?_; intro v' w7 hown' hgrow hnil; clear hnil)
      have Z0 := hide ((Y0.out.alloc (.cells (vc4 gi).toArray 24)).by (hown.alloc _) hgrow (by omega))
      have Z1 := hide ((Y1.out.alloc (.cells (vc4 gi).toArray 24)).by (hown.alloc _) hgrow (by omega))
      have ZB := hide (Below.by (BB.out.alloc (by omega) (.cells (vc4 gi).toArray 24)) (hown.alloc _) hgrow (by omega) (Nat.le_refl _))
      have hs7 := hgrow.size
      rw [World.size_alloc] at hs7
      rw [← hvs.out] at hown'
      replace hown' := hide hown'
      clear hown hgrow Y0 Y1 BB hvs
      go_wp2
      go_roundg (m - i)
      case measure => omega
      case rel => exact ⟨i + 1, by go_num, by omega, by omega, hown', ZB, Z0, Z1, by omega⟩
    · have hltz : ¬ (i : Int) < (m : Int) := by omega
      obtain rfl : i = m := by omega
      obtain ⟨p', c', hv, -, -⟩ := own_row HO.out
      subst hv
      have Y0 := V0.out
      have Y1 := V1.out
      have GB := G.out
      clear V0 V1 G HR
      have a0 := Y0.cell 0 rfl
      have af0 := Y0.free 0
      have a1 := Y0.cell 1 rfl
      have af1 := Y0.free 1
      have a2 := Y0.cell 2 rfl
      have af2 := Y0.free 2
      have a3 := Y0.cell 3 rfl
      have af3 := Y0.free 3
      have alt := Y0.lt
      have d0 := Y1.cell 0 rfl
      have df0 := Y1.free 0
      have d1 := Y1.cell 1 rfl
      have df1 := Y1.free 1
      have d2 := Y1.cell 2 rfl
      have df2 := Y1.free 2
      have d3 := Y1.cell 3 rfl
      have df3 := Y1.free 3
      have dlt := Y1.lt
      go_wp2
      refine name_bp fun wq hq => ?_
      have Gq : Below w.heap.size w wq := by
        rw [hq]
        repeat' (first | (with_reducible exact GB) | (refine Below.setCell ?_ (by dsimp only; omega) _))
      have Bq : Blk wq (w.heap.size + 1) 24 [.int .i64 4, .int .i64 0, .string ⟨#[]⟩, .slice p' i c'] := by
        rw [hq]
        exact ((((Y1.other (by omega) _).set' 0 _ rfl).set' 1 _ rfl).set' 2 _ rfl).set' 3 _ rfl
      have Hq := HO.out
      replace Hq : wq.ownsRow (w.heap.size + 2) 24 4 (.slice p' i c') i (vcs g i) := by
        rw [hq]
        exact own_set (own_set (own_set (own_set (own_set Hq (by omega) _ _) (by omega) _ _) (by omega) _ _) (by omega) _ _) (by omega) _ _
      have q0 := Bq.cell 0 rfl
      have q1 := Bq.cell 1 rfl
      have q2 := Bq.cell 2 rfl
      have q3 := Bq.cell 3 rfl
      exact bodyPost_ret (v := lsV p' i c') (by simp [results, Tryd.results46, go_sem, q0, q1, q2, q3]) rfl ⟨_, _, rfl, Hq, Gq, trivial⟩
theorem OwnL.set' {B M b : Nat} {G : Nat → Int} (p : Option Addr) (m c : Nat) (w : World) (o : Nat) (x : Value) (h : OwnL B M G p m c w) (hb : b ≤ B) : OwnL B M G p m c (w.setCell ⟨b, o, none⟩ x) := by
  obtain ⟨h0, base, h1, h2⟩ := h
  exact ⟨h0, base, h1, own_set h2 (Nat.lt_of_le_of_lt hb h1) _ _⟩
/-- Eval where the value is a list of ints. -/
theorem Eval_list {d : Nd} {t : Nat} {pe : Option Addr} {me ce : Nat} {g : Nat → Bd} {Gr : Nat → Option Addr → Nat → Nat → World → Prop} {M : Nat} {G : Nat → Int} (w : World) (hv : Vl w w.heap.size d 1 t) (ht : t ≤ 400) (he : EvG w w.heap.size pe me ce d 4 0 0 Gr)
    (hm : me ≤ 1000) (hL : BRow w w.heap.size pe me g) (hg : ∀ i, i < me → ∀ W, Grew w W → Calls Tryd.prog 11 #[(g i).d.v] W fun e w' => e = .returned (.int .i64 0) ∧ Grew W w')
    (hGr : ∀ L p m c w w', Gr L p m c w → Grew w w' → Gr L p m c w') (hM : M ≤ 100) (hR : ∀ L p m c W, Gr L p m c W → m = M ∧ Row W W.heap.size p M (fun i => nd 1 (G i))) :
    Calls Tryd.prog 30 #[d.v, .slice pe me ce] w fun e w' => ∃ p2 m2 c2, e = .returned (.tuple #[lsV p2 m2 c2, .int .i64 0]) ∧ OwnL (w.heap.size + 1) M G p2 m2 c2 w' ∧ Grew w w' := by
  refine Eval_gen w hv ht he hm hL hg hGr OwnL.grew (fun p m c W b o x h _ hb => h.set' p m c W o x hb) (fun L pr mr cr W h hl => hide ?_)
  obtain ⟨rfl, hr⟩ := hR _ _ _ _ _ h
  refine (clone_own pr mr cr G W hM hr).mono ?_
  rintro e w' ⟨p2, c2, rfl, own, gg⟩
  exact ⟨p2, _, c2, rfl, ⟨rfl, _, by omega, own⟩, gg⟩
end Go.Proofs.YtnhhmndnmkkhlaaDoor
