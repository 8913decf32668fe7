/- inspect, typeOf and Check at lists of ints in range, of at most 100 elements. -/
import Derived.Test.YtnhhmndnmkkhlaaDoorExLa
import Derived.Test.YtnhhmndnmkkhlaaDoorExR
namespace Go.Proofs.YtnhhmndnmkkhlaaDoor
open Go.RowKit Go.Sort
set_option linter.unusedVariables false
set_option linter.unusedSimpArgs false

theorem Upd.setOwn {b : Nat} {w x : World} (h : Upd b w x) {p : Addr} (v : Value) (hp : w.heap.size ≤ p.block) : Upd b w (x.setCell p v) :=
  ⟨h.os, h.tape, h.output, by simp; exact h.size, fun k hk hn => by rw [heap_setCell_other _ _ _ _ (by omega)]; exact h.blk k hk hn⟩
theorem Row.mono {W : World} {B C : Nat} {p : Option Addr} {m : Nat} {f : Nat → Nd} (h : Row W B p m f) (hB : B ≤ C) : Row W C p m f := fun hm => by
  obtain ⟨a, off, hp, ha, hc⟩ := h hm
  exact ⟨a, off, hp, by omega, hc⟩
/-- The cells of m flat types, of which the first i are int's. -/
def ls2 (m i : Nat) : List Value := (List.range (m * 2)).map fun j => .int .i64 (if j % 2 = 1 ∧ j < i * 2 then 1 else 0)
theorem ls2_get {m i j : Nat} (h : j < m * 2) : (ls2 m i)[j]? = some (.int .i64 (if j % 2 = 1 ∧ j < i * 2 then 1 else 0)) := by
  simp [ls2, h]
theorem ls2_set {m i : Nat} (h : i < m) : ((ls2 m i).set (i * 2) (.int .i64 0)).set (i * 2 + 1) (.int .i64 1) = ls2 m (i + 1) := by
  apply List.ext_getElem?
  intro j
  simp only [List.getElem?_set, List.length_set]
  have hl : (ls2 m i).length = m * 2 := by simp [ls2]
  rw [hl]
  by_cases hj : j < m * 2
  · rw [ls2_get hj, ls2_get hj]
    by_cases h1 : i * 2 + 1 = j
    · subst h1
      rw [if_pos rfl, if_pos (by omega), if_pos (by omega)]
    · rw [if_neg h1]
      by_cases h2 : i * 2 = j
      · subst h2
        rw [if_pos rfl, if_pos (by omega), if_neg (by omega)]
      · rw [if_neg h2]
        congr 2
        by_cases h3 : j % 2 = 1 ∧ j < i * 2
        · rw [if_pos h3, if_pos (by omega)]
        · rw [if_neg h3, if_neg (by omega)]
  · have e1 : (ls2 m i)[j]? = none := by rw [List.getElem?_eq_none]; omega
    have e2 : (ls2 m (i + 1))[j]? = none := by rw [List.getElem?_eq_none]; simp [ls2]; omega
    rw [e1, e2, if_neg (by omega), if_neg (by omega)]
theorem make_flat (m : Nat) (hm : m ≤ 100000) (w : World) : (Instr.makeSlice 88 (.int .i64 (m : Int)) (.int .i64 (m : Int))).run Tryd.prog w = .ok (.slice (some ⟨w.heap.size, 0, none⟩) m m) (w.alloc (.cells (ls2 m 0).toArray 65)) := by
  obtain ⟨i, hi, hz0, hz1, hz2⟩ := info_parts info_flat
  have hr := run_make (P := Tryd.prog) w 88 65 i _ Tryd.underlying88 hi hz0 .i64 .i64 m m (by omega) (by omega) (by rw [hz2]; omega) (by omega)
  simp only [Int.toNat_natCast] at hr
  rw [hr, hz1]
  have e : madeCells (Value.agg #[.int .i64 0, .int .i64 0]).cells (m * 2) = (ls2 m 0).toArray := by
    apply Array.ext
    · simp [madeCells, ls2]
    · intro j h1 h2
      simp only [madeCells, ls2, Value.cells]
      simp
      rcases Nat.mod_two_eq_zero_or_one j with h | h <;> simp [h]
  show Result.ok _ (w.alloc (.cells (madeCells (Value.agg #[.int .i64 0, .int .i64 0]).cells (m * 2)) 65)) = _
  rw [e]
theorem FRow.of {w : World} {b m : Nat} (h : Blk w b 65 (ls2 m m)) : FRow w b m :=
  ⟨h.lt, fun i hi => ⟨h.cell (i * 2) (by rw [ls2_get (by omega), if_neg (by omega)]), h.cell (i * 2 + 1) (by rw [ls2_get (by omega), if_pos (by omega)])⟩⟩

set_option maxRecDepth 20000 in
set_option maxHeartbeats 1000000 in
theorem inspect_ls (p : Option Addr) (m cc : Nat) (g : Nat → Int) (c d B : Nat) (b : Nat) (w : World) (hb : Blk w b 85 [.int .i64 (c : Int)]) (hm : m ≤ 100) (hc : c + 1 + m < 1000) (hd : d < 16)
    (hr : Row w B p m (fun i => nd 1 (g i))) (hB : B ≤ b) (hBw : B ≤ w.heap.size) (hg : ∀ i, i < m → nuB (g i) = true) :
    Calls Tryd.prog 47 #[.pointer (some ⟨b, 0, none⟩), lsV p m cc, .int .i64 (d : Int)] w fun e w' => e = .returned (.tuple #[flV 1 (cmK m), .int .i64 0]) ∧ Upd b w w' ∧ Blk w' b 85 [.int .i64 ((c + 1 + m : Nat) : Int)] := by
  have KA := fun b w hb => hide (inspectAlone_ls p m cc ((c : Int) + 1) b w hb (by omega) hm)
  have KC := fun eb W h => hide (common_ints eb m W h hm)
  have KL := fun W => hide (flist_any 0 (cmK m) W (by omega) (by omega))
  simp only [Int.zero_add] at KL
  have HR := hide hr
  have HG := hide hg
  have wc : IntKind.i64.wrap ((c : Int) + 1) = (c : Int) + 1 := wr (by omega) (by omega)
  have wd : IntKind.i64.wrap ((d : Int) + 1) = (d : Int) + 1 := wr (by omega) (by omega)
  have hd16 : ((d : Int) == 16) = false := by simp; omega
  have hlt := hb.lt
  have b0 := hb.cell 0 rfl
  have b1 := hb.free 0
  clear hr hg
  go_enter Tryd.func47, Tryd.ntmps47
  go_wp2_with fail
  refine name_calls fun w2 h2 => ?_
  have U0 : Upd b w w2 := by rw [h2]; exact (Upd.set _ 0 _).trans (Upd.of_grew (((Grew.refl _).alloc _).alloc _))
  have V0 : Blk w2 w.heap.size 24 [.int .i64 4, .int .i64 0, .string ⟨#[]⟩, .slice p m cc] := by
    rw [h2]; repeat' (first | (with_reducible assumption) | ((with_reducible refine Blk.new ?_); (first | (with_reducible rfl) | (simp only [World.size_alloc, World.size_setCell, size_drewN]; done))) | (with_reducible refine Blk.alloc ?_ _) | (refine Blk.other ?_ (by omega) _) | fail)
  have V1 : Blk w2 (w.heap.size + 1) 65 [.int .i64 0, .int .i64 0] := by
    rw [h2]; repeat' (first | (with_reducible assumption) | ((with_reducible refine Blk.new ?_); (first | (with_reducible rfl) | (simp only [World.size_alloc, World.size_setCell, size_drewN]; done))) | (with_reducible refine Blk.alloc ?_ _) | (refine Blk.other ?_ (by omega) _) | fail)
  have V2 : Blk w2 b 85 [.int .i64 ((c : Int) + 1)] := by
    rw [h2]; exact ((Blk.set' hb 0 _ rfl).alloc _).alloc _
  clear h2
  refine ((KA b w2 V2).out).mono ?_
  rintro e w3 ⟨rfl, G3⟩
  have W0 := V0.grew G3
  have W1 := V1.grew G3
  have W2 := V2.grew G3
  have U1 : Upd b w w3 := U0.trans (Upd.of_grew G3)
  clear V0 V1 V2 U0 G3 KA
  have a0 := W0.cell 0 rfl
  have af0 := W0.free 0
  have a1 := W0.cell 1 rfl
  have af1 := W0.free 1
  have a2 := W0.cell 2 rfl
  have af2 := W0.free 2
  have a3 := W0.cell 3 rfl
  have af3 := W0.free 3
  have alt := W0.lt
  have hmk := make_flat m (by omega) w3
  go_wp2
  clear hmk
  refine name_world fun w4 h4 => ?_
  have X0 : Hid (Blk w4 w.heap.size 24 [.int .i64 4, .int .i64 0, .string ⟨#[]⟩, .slice p m cc]) := by
    refine hide ?_; rw [h4]; exact W0.alloc _
  have X1 : Hid (Blk w4 (w.heap.size + 1) 65 [.int .i64 0, .int .i64 0]) := by
    refine hide ?_; rw [h4]; exact W1.alloc _
  have X2 : Hid (Blk w4 b 85 [.int .i64 ((c + 1 + 0 : Nat) : Int)]) := by
    refine hide ?_; rw [h4]; exact W2.alloc _
  have X3 : Hid (Blk w4 w3.heap.size 65 (ls2 m 0)) := by
    refine hide ?_; rw [h4]; exact Blk.new rfl
  have U4 : Hid (Upd b w w4) := by
    refine hide ?_; rw [h4]; exact U1.trans (Upd.of_grew ((Grew.refl _).alloc _))
  have hs3 : w.heap.size + 1 < w3.heap.size := W1.lt
  clear h4 W0 W1 W2 U1 a0 a1 a2 a3 af0 af1 af2 af3 alt
  generalize w3.heap.size = eb at *
  have c3 := X0.out.cell 3 rfl
  go_wp2
  clear c3
  go_loopg [51] (m + 1) (fun gh vk wr => ∃ (i : Nat), vk = .int .i64 (i : Int) ∧ i ≤ m ∧ m - i < gh ∧ Hid (Upd b w wr) ∧ Hid (Blk wr w.heap.size 24 [.int .i64 4, .int .i64 0, .string ⟨#[]⟩, .slice p m cc]) ∧ Hid (Blk wr (w.heap.size + 1) 65 [.int .i64 0, .int .i64 0]) ∧ Hid (Blk wr b 85 [.int .i64 ((c + 1 + i : Nat) : Int)]) ∧ Hid (Blk wr eb 65 (ls2 m i)))
  case atStart => exact ⟨0, by go_num, by omega, by omega, U4, X0, X1, X2, X3⟩
  case round =>
    clear X0 X1 X2 X3 U4
    obtain ⟨wo, rfl⟩ : ∃ wo : World, wo = wr := ⟨_, rfl⟩
    obtain ⟨i, rfl, hi, hgh, U, V0, V1, V2, V3⟩ := hrel
    by_cases hlt2 : i < m
    · have hltz : (i : Int) < (m : Int) := by omega
      obtain ⟨br, off, rfl, hbr, hcs⟩ := (HR.out.below (U.out.below hB hBw)) (by omega)
      obtain ⟨x0, x1, x2, x3⟩ := hcs i hlt2
      have KI := fun W hV => hide (inspect_lf 1 (g i) ((c + 1 + i : Nat) : Int) ((d : Int) + 1) b W hV (by omega) (by omega) (.inl ⟨rfl, HG.out i hlt2⟩))
      simp only [show ckE 1 (g i) = 0 by simp [ckE, HG.out i hlt2], show ckT 1 (g i) = 1 by simp [ckT, HG.out i hlt2]] at KI
      dsimp only at x0 x1 x2 x3
      generalize g i = gi at *
      clear hcs KC KL
      have U' := U.out
      have B0 := V0.out
      have B1 := V1.out
      have B2 := V2.out
      have B3 := V3.out
      clear U V0 V1 V2 V3
      go_wp2_with fail
      refine name_calls fun w5 h5 => ?_
      have U5 : Upd b w w5 := by rw [h5]; exact U'.trans (Upd.of_grew ((Grew.refl _).alloc _))
      have C0 : Blk w5 w.heap.size 24 [.int .i64 4, .int .i64 0, .string ⟨#[]⟩, .slice (some ⟨br, off, none⟩) m cc] := by rw [h5]; exact B0.alloc _
      have C1 : Blk w5 (w.heap.size + 1) 65 [.int .i64 0, .int .i64 0] := by rw [h5]; exact B1.alloc _
      have C2 : Blk w5 b 85 [.int .i64 ((c + 1 + i : Nat) : Int)] := by rw [h5]; exact B2.alloc _
      have C3 : Blk w5 eb 65 (ls2 m i) := by rw [h5]; exact B3.alloc _
      clear h5 B0 B1 B2 B3 U'
      refine ((KI w5 C2).out).mono ?_
      rintro e w6 ⟨rfl, U6, D2⟩
      have D0 := hide (C0.upd U6 (by omega))
      have D1 := hide (C1.upd U6 (by omega))
      have D3 := C3.upd U6 (by omega)
      have UU := U5.trans U6
      have D2' : Hid (Blk w6 b 85 [.int .i64 ((c + 1 + (i + 1) : Nat) : Int)]) := D2
      clear C0 C1 C2 C3 U5 U6 D2 KI x0 x1 x2 x3
      have d0 := D3.cell (i * 2) (ls2_get (by omega))
      have d1 := D3.cell (i * 2 + 1) (ls2_get (by omega))
      have f0 := D3.free (i * 2)
      have f1 := D3.free (i * 2 + 1)
      have dl := D3.lt
      rw [if_neg (by omega)] at d0 d1
      go_wp2
      go_roundg (m - i)
      case measure => omega
      case rel =>
        refine ⟨i + 1, by go_num, by omega, by omega, ?_, ?_, ?_, ?_, ?_⟩
        · exact hide (((UU.setOwn _ (by dsimp only; omega)).setOwn _ (by dsimp only; omega)).trans (Upd.of_grew ((Grew.refl _).alloc _)))
        · exact hide (((D0.out.other (by omega) _).other (by omega) _).alloc _)
        · exact hide (((D1.out.other (by omega) _).other (by omega) _).alloc _)
        · exact hide (((D2'.out.other (by omega) _).other (by omega) _).alloc _)
        · refine hide (Blk.alloc ?_ _)
          rw [← ls2_set hlt2]
          exact (D3.set (i * 2) _).set (i * 2 + 1) _
    · have hltz : ¬ (i : Int) < (m : Int) := by omega
      obtain rfl : i = m := by omega
      have U' := U.out
      have B0 := V0.out
      have B1 := V1.out
      have B2 := V2.out
      have F := FRow.of V3.out
      clear U V0 V1 V2 V3
      go_wp2_with fail
      refine ((KC eb wo F).out).mono ?_
      rintro e w5 ⟨rfl, G5⟩
      dsimp only [jnV, flV]
      have C1 := B1.grew G5
      have C2 := B2.grew G5
      have U5 := U'.trans (Upd.of_grew G5)
      clear B0 B1 B2 U' G5 F KC
      go_wp2_with fail
      refine name_calls fun w6 h6 => ?_
      have C1' : Blk w6 (w.heap.size + 1) 65 [.int .i64 0, .int .i64 0] := by rw [h6]; exact C1.alloc _
      have C2' : Blk w6 b 85 [.int .i64 ((c + 1 + i : Nat) : Int)] := by rw [h6]; exact C2.alloc _
      have U6 : Upd b w w6 := by rw [h6]; exact U5.trans (Upd.of_grew ((Grew.refl _).alloc _))
      clear h6 C1 C2 U5
      refine ((KL w6).out).mono ?_
      rintro e w7 ⟨rfl, G7⟩
      have E1 := C1'.grew G7
      have E2 := C2'.grew G7
      have U7 := U6.trans (Upd.of_grew G7)
      clear C1' C2' U6 G7 KL
      have d0 := E1.cell 0 rfl
      have fr0 := E1.free 0
      have d1 := E1.cell 1 rfl
      have fr1 := E1.free 1
      have dlt := E1.lt
      go_wp2
      refine name_bp fun wq hq => ?_
      have Uq : Upd b w wq := by
        rw [hq]
        exact (U7.setOwn _ (by dsimp only; omega)).setOwn _ (by dsimp only; omega)
      have Bq : Blk wq (w.heap.size + 1) 65 [.int .i64 1, .int .i64 (cmK i)] := by
        rw [hq]
        exact (E1.set' 0 _ rfl).set' 1 _ rfl
      have Cq : Blk wq b 85 [.int .i64 ((c + 1 + i : Nat) : Int)] := by
        rw [hq]
        exact (E2.other (by omega) _).other (by omega) _
      have q0 := Bq.cell 0 rfl
      have q1 := Bq.cell 1 rfl
      exact bodyPost_ret (v := .tuple #[flV 1 (cmK i), .int .i64 0]) (by simp [results, Tryd.results47, go_sem, q0, q1]) rfl ⟨rfl, Uq, Cq⟩

set_option maxHeartbeats 1000000 in
theorem typeOf_ls (p : Option Addr) (m cc : Nat) (g : Nat → Int) (w : World) (hm : m ≤ 100) (hr : Row w w.heap.size p m (fun i => nd 1 (g i))) (hg : ∀ i, i < m → nuB (g i) = true) :
    Calls Tryd.prog 33 #[lsV p m cc] w fun e w' => e = .returned (.tuple #[flV 1 (cmK m), .int .i64 0]) ∧ Grew w w' := by
  have KA := fun W b hb hW hB => hide (inspect_ls p m cc g 0 0 w.heap.size b W hb hm (by omega) (by omega) hW hB)
  have HR := hide hr
  clear hr
  generalize cmK m = K at *
  go_enter Tryd.func33, Tryd.ntmps33
  go_wp2_with fail
  refine name_calls fun w1 h1 => ?_
  have G1 : Grew w w1 := by rw [h1]; exact (((Grew.refl _).alloc _).alloc _).alloc _
  have B1_1 : Blk w1 (w.heap.size + 1) 65 [.int .i64 0, .int .i64 0] := by
    rw [h1]; repeat' (first | (with_reducible assumption) | ((with_reducible refine Blk.new ?_); (first | (with_reducible rfl) | (simp only [World.size_alloc, World.size_setCell, size_drewN]; done))) | (with_reducible refine Blk.alloc ?_ _) | (refine Blk.other ?_ (by omega) _) | fail)
  have B1_2 : Blk w1 (w.heap.size + 1 + 1) 85 [.int .i64 0] := by
    rw [h1]; repeat' (first | (with_reducible assumption) | ((with_reducible refine Blk.new ?_); (first | (with_reducible rfl) | (simp only [World.size_alloc, World.size_setCell, size_drewN]; done))) | (with_reducible refine Blk.alloc ?_ _) | (refine Blk.other ?_ (by omega) _) | fail)
  clear h1
  refine ((KA w1 _ B1_2 (HR.out.below G1.1) (by omega)).out G1.size hg).mono ?_
  rintro e w2 ⟨rfl, U2, B2⟩
  have G2 : Grew w w2 := U2.grew G1 (by omega)
  have V1 := B1_1.upd U2 (by omega)
  have e0 := V1.cell 0 rfl
  have e1 := V1.cell 1 rfl
  have f0 := V1.free 0
  have f1 := V1.free 1
  clear B1_1 B1_2 U2 B2 KA hg HR
  go_wp2
  refine name_bp fun wq hq => ?_
  have Gq : Grew w wq := by
    rw [hq]
    exact (G2.setCell (by dsimp only; omega) _).setCell (by dsimp only; omega) _
  have Bq : Blk wq (w.heap.size + 1) 65 [.int .i64 1, .int .i64 K] := by
    rw [hq]
    exact (V1.set' 0 _ rfl).set' 1 _ rfl
  have q0 := Bq.cell 0 rfl
  have q1 := Bq.cell 1 rfl
  exact bodyPost_ret (v := .tuple #[flV 1 K, .int .i64 0]) (by simp [results, Tryd.results33, go_sem, q0, q1]) rfl ⟨rfl, Gq⟩
set_option maxHeartbeats 4000000 in
theorem Check_ls (p : Option Addr) (m cc : Nat) (g : Nat → Int) (w : World) (hm : m ≤ 100) (hr : Row w w.heap.size p m (fun i => nd 1 (g i))) (hg : ∀ i, i < m → nuB (g i) = true) :
    Calls Tryd.prog 11 #[lsV p m cc] w fun e w' => e = .returned (.int .i64 0) ∧ Grew w w' := by
  have KA := fun W (h : Grew w W) => hide (typeOf_ls p m cc g W hm ((hr.below h.1).mono h.size) hg)
  clear hr hg
  generalize cmK m = K at *
  go_enter Tryd.func11, Tryd.ntmps11
  go_wp2_with fail
  refine name_calls fun w1 h1 => ?_
  have G1 : Grew w w1 := by
    rw [h1]
    repeat' (first | (with_reducible exact Grew.refl _) | (with_reducible refine Grew.setCell ?_ ?_ _) | (with_reducible refine Grew.drewN ?_ _) | (with_reducible refine Grew.reD ?_ _) | (with_reducible refine Grew.alloc ?_ _) | (with_reducible refine Grew.trans ?_ G1.out) | (dsimp only; omega))
  have B1_0 : Blk w1 (w.heap.size) 24 [.int .i64 4, .int .i64 0, .string ⟨#[]⟩, .slice p m cc] := by (rw [h1]; repeat' (first | (with_reducible assumption) | ((with_reducible refine Blk.new ?_); (first | (with_reducible rfl) | (simp only [World.size_alloc, World.size_setCell, size_drewN]; done))) | (with_reducible refine Blk.alloc ?_ _) | (with_reducible refine Blk.drewN ?_ _) | (with_reducible refine Blk.drew ?_) | (refine Blk.other ?_ (by omega) _) | fail))
  have z1 := G1.size
  replace G1 := hide G1
  clear h1
  have t1_0 := B1_0.lt
  have d1_0_0 := B1_0.cell 0 rfl
  have e1_0_0 := B1_0.free 0
  have d1_0_1 := B1_0.cell 1 rfl
  have e1_0_1 := B1_0.free 1
  have d1_0_2 := B1_0.cell 2 rfl
  have e1_0_2 := B1_0.free 2
  have d1_0_3 := B1_0.cell 3 rfl
  have e1_0_3 := B1_0.free 3
  refine ((KA _ G1.out).out).mono ?_
  rintro e w2 ⟨rfl, G2⟩
  try (with_reducible replace G2 := Grew.undrawn G2)
  have B2_0 : Blk w2 (w.heap.size) 24 [.int .i64 4, .int .i64 0, .string ⟨#[]⟩, .slice p m cc] := Blk.grew (by (repeat' (first | (with_reducible assumption) | ((with_reducible refine Blk.new ?_); (first | (with_reducible rfl) | (simp only [World.size_alloc, World.size_setCell, size_drewN]; done))) | (with_reducible refine Blk.alloc ?_ _) | (with_reducible refine Blk.drewN ?_ _) | (with_reducible refine Blk.drew ?_) | (refine Blk.other ?_ (by omega) _) | fail))) G2
  have z2 := G2.size
  try simp only [World.size_alloc, World.size_setCell, size_drewN] at z2
  replace G2 := hide G2
  have t2_0 := B2_0.lt
  have d2_0_0 := B2_0.cell 0 rfl
  have e2_0_0 := B2_0.free 0
  have d2_0_1 := B2_0.cell 1 rfl
  have e2_0_1 := B2_0.free 1
  have d2_0_2 := B2_0.cell 2 rfl
  have e2_0_2 := B2_0.free 2
  have d2_0_3 := B2_0.cell 3 rfl
  have e2_0_3 := B2_0.free 3
  go_wp2
  go_ret
  refine ⟨rfl, ?_⟩
  repeat' (first | (with_reducible exact Grew.refl _) | (with_reducible refine Grew.setCell ?_ ?_ _) | (with_reducible refine Grew.drewN ?_ _) | (with_reducible refine Grew.reD ?_ _) | (with_reducible refine Grew.alloc ?_ _) | (with_reducible refine Grew.trans ?_ G2.out) | (with_reducible refine Grew.trans ?_ G1.out) | (dsimp only; omega))
end Go.Proofs.YtnhhmndnmkkhlaaDoor
