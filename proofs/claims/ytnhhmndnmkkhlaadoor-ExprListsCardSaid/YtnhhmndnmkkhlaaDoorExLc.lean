/- clone at lists of ints. -/
import Derived.Test.YtnhhmndnmkkhlaaDoorExLb
namespace Go.Proofs.YtnhhmndnmkkhlaaDoor
open Go.RowKit Go.Sort
set_option linter.unusedVariables false
set_option linter.unusedSimpArgs false

abbrev vc4 (n : Int) : List Value := [.int .i64 1, .int .i64 n, .string ⟨#[]⟩, .slice none 0 0]
def vcs (g : Nat → Int) (i : Nat) : List Value := (List.range i).flatMap fun j => vc4 (g j)
theorem vcs_succ (g : Nat → Int) (i : Nat) : vcs g (i + 1) = vcs g i ++ vc4 (g i) := by simp [vcs, List.range_succ]
theorem vcs_len (g : Nat → Int) : ∀ i, (vcs g i).length = i * 4
  | 0 => rfl
  | i + 1 => by rw [vcs_succ, List.length_append, vcs_len g i]; simp; omega
theorem vcs_get (g : Nat → Int) : ∀ {i j k : Nat}, j < i → k < 4 → (vcs g i)[j * 4 + k]? = (vc4 (g j))[k]?
  | 0, _, _, h, _ => absurd h (by omega)
  | i + 1, j, k, h, hk => by
    rw [vcs_succ]
    by_cases e : j < i
    · rw [List.getElem?_append_left (by rw [vcs_len]; omega)]
      exact vcs_get g e hk
    · obtain rfl : j = i := by omega
      rw [List.getElem?_append_right (by rw [vcs_len]; omega), vcs_len]
      congr 1
      omega
theorem cells_new {W : World} {b : Nat} {T : TypeId} {vs : List Value} (h : Blk W b T vs) : ∀ j u, vs[j]? = some u → W.cell? ((⟨b, 0, none⟩ : Addr).add j) = some u := fun j u hj => by
  have := h.cell j hj
  unfold Addr.add
  split
  · rename_i e; subst e; exact this
  · simpa using this
theorem Grew.by {w w' : World} (g : Grew w w') : w.grownBy w' none := ⟨g.1.os, g.1.tape, g.1.output, g.1.size, fun k hk _ => g.1.block k hk⟩
theorem own_grew {w w' : World} {base size n : Nat} {e : TypeId} {v : Value} {xs : List Value} (h : w.ownsRow base e size v n xs) (g : Grew w w') : w'.ownsRow base e size v n xs := by
  cases hv : v.ownBlock with
  | none => exact h.kept g.by (.inl hv)
  | some k => exact h.kept g.by (.inr (by rw [hv]; simp))
theorem Blk.by {w w' : World} {b base size n : Nat} {e : TypeId} {v : Value} {xs : List Value} {T : TypeId} {vs : List Value} (h : Blk w b T vs) (ho : w.ownsRow base e size v n xs) (g : w.grownBy w' v.ownBlock) (hb : b < base) : Blk w' b T vs :=
  (g.block b h.lt (fun e => by have := (ho.lt b e.symm).1; omega)).trans h
theorem Below.by {B : Nat} {w0 w w' : World} {base size n : Nat} {e : TypeId} {v : Value} {xs : List Value} (h : Below B w0 w) (ho : w.ownsRow base e size v n xs) (g : w.grownBy w' v.ownBlock) (hb : B ≤ base) (hB : B ≤ w0.heap.size) : Below B w0 w' :=
  Below.grown h g (Nat.le_trans hB h.size) (fun j hj => Nat.le_trans hb (ho.lt _ hj).1)
/-- A slice of one's own reads as a row. -/
theorem own_row {w : World} {base m : Nat} {v : Value} {g : Nat → Int} (h : w.ownsRow base 24 4 v m (vcs g m)) : ∃ p c, v = .slice p m c ∧ m ≤ c ∧ Row w w.heap.size p m (fun i => nd 1 (g i)) := by
  rcases h.2 with ⟨rfl, rfl⟩ | ⟨b, cap, cur, rfl, hb, hg, hn, hc, hs, ht⟩
  · exact ⟨none, 0, rfl, Nat.le_refl _, Row.nil⟩
  · refine ⟨some ⟨b, 0, none⟩, cap, rfl, hn, fun _ => ⟨b, 0, rfl, (Array.getElem?_eq_some_iff.1 hg).1, fun i hi => ?_⟩⟩
    have key : ∀ k u, k < 4 → (vc4 (g i))[k]? = some u → w.cell? ⟨b, 0 + i * 4 + k, none⟩ = some u := by
      intro k u hk hu
      have := h.cells (g := b) rfl (i * 4 + k) u (by rw [vcs_get g hi hk]; exact hu)
      unfold Addr.add at this
      split at this
      · rename_i e
        have e0 : i = 0 ∧ k = 0 := by simp at e; omega
        obtain ⟨rfl, rfl⟩ := e0
        exact this
      · rw [Nat.add_assoc]; simpa using this
    exact ⟨key 0 _ (by omega) rfl, key 1 _ (by omega) rfl, key 2 _ (by omega) rfl, key 3 _ (by omega) rfl⟩

theorem own_set {w : World} {base size n : Nat} {e : TypeId} {v : Value} {xs : List Value} (h : w.ownsRow base e size v n xs) {b : Nat} (hb : b < base) (j : Nat) (u : Value) : (w.setCell ⟨b, j, none⟩ u).ownsRow base e size v n xs :=
  h.kept (row := some b) ⟨rfl, rfl, rfl, by simp, fun k hk hne => heap_setCell_other w ⟨b, j, none⟩ k u (fun e => hne (by rw [e]))⟩ (.inr (fun e => by have := (h.lt b e).1; omega))

set_option maxRecDepth 20000 in
set_option maxHeartbeats 1000000 in
theorem clone_ls (p : Option Addr) (m cc : Nat) (g : Nat → Int) (w : World) (hm : m ≤ 100) (hr : Row w w.heap.size p m (fun i => nd 1 (g i))) :
    Calls Tryd.prog 46 #[lsV p m cc] w fun e w' => ∃ p' c', e = .returned (lsV p' m c') ∧ Row w' w'.heap.size p' m (fun i => nd 1 (g i)) ∧ m ≤ c' ∧ Grew w w' := by
  have HR := hide hr
  clear hr
  obtain ⟨i0, hi, hz0, hz1, hz2⟩ := info_parts info_value
  go_enter Tryd.func46, Tryd.ntmps46
  go_wp2
  refine name_world fun w1 h1 => ?_
  have b0 : Hid (Blk w1 w.heap.size 24 [.int .i64 4, .int .i64 0, .string ⟨#[]⟩, .slice p m cc]) := by
    refine hide ?_; rw [h1]; repeat' (first | (with_reducible assumption) | ((with_reducible refine Blk.new ?_); (first | (with_reducible rfl) | (simp only [World.size_alloc, World.size_setCell, size_drewN]; done))) | (with_reducible refine Blk.alloc ?_ _) | (refine Blk.other ?_ (by omega) _) | fail)
  have b1 : Hid (Blk w1 (w.heap.size + 1) 24 [.int .i64 0, .int .i64 0, .string ⟨#[]⟩, .slice none 0 0]) := by
    refine hide ?_; rw [h1]; repeat' (first | (with_reducible assumption) | ((with_reducible refine Blk.new ?_); (first | (with_reducible rfl) | (simp only [World.size_alloc, World.size_setCell, size_drewN]; done))) | (with_reducible refine Blk.alloc ?_ _) | (refine Blk.other ?_ (by omega) _) | fail)
  have G1 : Hid (Below w.heap.size w w1) := by rw [h1]; exact (((Grew.refl _).alloc _).alloc _).1
  have sz1 : w1.heap.size = w.heap.size + 2 := by rw [h1]; simp
  clear h1
  go_loopg [3, 9] (m + 1) (fun gh v vk wr => ∃ (i : Nat), vk = .int .i64 (i : Int) ∧ i ≤ m ∧ m - i < gh ∧ Hid (wr.ownsRow (w.heap.size + 2) 24 4 v i (vcs g i)) ∧ Hid (Below w.heap.size w wr) ∧ Hid (Blk wr w.heap.size 24 [.int .i64 4, .int .i64 0, .string ⟨#[]⟩, .slice p m cc]) ∧ Hid (Blk wr (w.heap.size + 1) 24 [.int .i64 0, .int .i64 0, .string ⟨#[]⟩, .slice none 0 0]) ∧ w.heap.size + 2 ≤ wr.heap.size)
  case atStart => exact ⟨0, by go_num, by omega, by omega, hide (World.ownsRow_nil _ _ _ _), G1, b0, b1, by omega⟩
  case round =>
    clear b0 b1 G1 sz1
    obtain ⟨wo, rfl⟩ : ∃ wo : World, wo = wr := ⟨_, rfl⟩
    obtain ⟨i, rfl, hi', hgh, HO, G, V0, V1, hsz⟩ := hrel
    by_cases hlt : i < m
    · have hltz : (i : Int) < (m : Int) := by omega
      obtain ⟨br, off, rfl, hbr, hcs⟩ := (HR.out.below G.out) (by omega)
      obtain ⟨x0, x1, x2, x3⟩ := hcs i hlt
      dsimp only at x0 x1 x2 x3
      have KI := fun W => hide (clone_lf 1 (g i) W)
      have hvs := hide (vcs_succ g i)
      generalize hgi : g i = gi at *
      have G' := G.out
      clear hcs hgi
      go_wp2_with fail
      refine name_calls fun w5 h5 => ?_
      have G5 : Grew wo w5 := by rw [h5]; exact (Grew.refl _).alloc _
      clear h5
      refine ((KI w5).out).mono ?_
      rintro e w6 ⟨rfl, G6⟩
      have GG := G5.trans G6
      have hown := own_grew HO.out GG
      have Y0 := hide (V0.out.grew GG)
      have Y1 := hide (V1.out.grew GG)
      have BB := hide (Grew.to G' GG (Nat.le_refl _))
      have hs6 := GG.size
      clear HO V0 V1 G G' G5 G6 GG KI x0 x1 x2 x3
      go_wp2_with (at_builtin; refine wpList_append_own _ rfl _ _ 22 rfl (w.heap.size + 2) 24 i0 (nv 0 0) 4 56 Tryd.underlying22 hi hz0 hz1 hz2 rfl (by decide) _ _ _ rfl (hown.alloc _) ⟨w6.heap.size, 0, none⟩ 1 1 (vc4 gi) rfl rfl (cells_new (Blk.new rfl)) (fun x hx => by simp at hx; rcases hx with rfl | rfl | rfl | rfl <;> rfl) (by unfold maxLen; omega) (by omega) (by simp; omega) ?_; intro v' w7 hown' hgrow hnil; clear hnil)
      have Z0 := hide ((Y0.out.alloc (.cells (vc4 gi).toArray 24)).by (hown.alloc _) hgrow (by omega))
      have Z1 := hide ((Y1.out.alloc (.cells (vc4 gi).toArray 24)).by (hown.alloc _) hgrow (by omega))
      have ZB := hide (Below.by (BB.out.alloc (by omega) (.cells (vc4 gi).toArray 24)) (hown.alloc _) hgrow (by omega) (Nat.le_refl _))
      have hs7 := hgrow.size
      rw [World.size_alloc] at hs7
      rw [← hvs.out] at hown'
      replace hown' := hide hown'
      clear hown hgrow Y0 Y1 BB hvs
      go_wp2
      go_roundg (m - i)
      case measure => omega
      case rel => exact ⟨i + 1, by go_num, by omega, by omega, hown', ZB, Z0, Z1, by omega⟩
    · have hltz : ¬ (i : Int) < (m : Int) := by omega
      obtain rfl : i = m := by omega
      obtain ⟨p', c', hv, -, -⟩ := own_row HO.out
      subst hv
      have Y0 := V0.out
      have Y1 := V1.out
      have GB := G.out
      clear V0 V1 G HR
      have a0 := Y0.cell 0 rfl
      have af0 := Y0.free 0
      have a1 := Y0.cell 1 rfl
      have af1 := Y0.free 1
      have a2 := Y0.cell 2 rfl
      have af2 := Y0.free 2
      have a3 := Y0.cell 3 rfl
      have af3 := Y0.free 3
      have alt := Y0.lt
      have d0 := Y1.cell 0 rfl
      have df0 := Y1.free 0
      have d1 := Y1.cell 1 rfl
      have df1 := Y1.free 1
      have d2 := Y1.cell 2 rfl
      have df2 := Y1.free 2
      have d3 := Y1.cell 3 rfl
      have df3 := Y1.free 3
      have dlt := Y1.lt
      go_wp2
      refine name_bp fun wq hq => ?_
      have Gq : Below w.heap.size w wq := by
        rw [hq]
        repeat' (first | (with_reducible exact GB) | (refine Below.setCell ?_ (by dsimp only; omega) _))
      have Bq : Blk wq (w.heap.size + 1) 24 [.int .i64 4, .int .i64 0, .string ⟨#[]⟩, .slice p' i c'] := by
        rw [hq]
        exact ((((Y1.other (by omega) _).set' 0 _ rfl).set' 1 _ rfl).set' 2 _ rfl).set' 3 _ rfl
      have Hq := HO.out
      replace Hq : wq.ownsRow (w.heap.size + 2) 24 4 (.slice p' i c') i (vcs g i) := by
        rw [hq]
        exact own_set (own_set (own_set (own_set (own_set Hq (by omega) _ _) (by omega) _ _) (by omega) _ _) (by omega) _ _) (by omega) _ _
      obtain ⟨p2, c2, e2, hc2, hrow⟩ := own_row Hq
      simp only [Value.slice.injEq, true_and] at e2
      obtain ⟨rfl, rfl⟩ := e2
      have q0 := Bq.cell 0 rfl
      have q1 := Bq.cell 1 rfl
      have q2 := Bq.cell 2 rfl
      have q3 := Bq.cell 3 rfl
      exact bodyPost_ret (v := lsV p' i c') (by simp [results, Tryd.results46, go_sem, q0, q1, q2, q3]) rfl ⟨_, _, rfl, hrow, hc2, Gq, trivial⟩
end Go.Proofs.YtnhhmndnmkkhlaaDoor
