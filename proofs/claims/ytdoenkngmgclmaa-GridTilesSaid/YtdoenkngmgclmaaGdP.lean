/- Package grid's Place and Starts answer as its laws ask; no condition. -/
import Derived.Test.YtdoenkngmgclmaaGdPc
import Derived.Test.YtdoenkngmgclmaaGdB
import Derived.Test.YtdoenkngmgclmaaGdPg
import Derived.Test.YtdoenkngmgclmaaGdT
namespace Go.Proofs.Ytdoenkngmgclmaa
open Go.RowKit Go.Sort
set_option linter.unusedVariables false
set_option linter.unusedSimpArgs false

/-- A block of structs, read and written. -/
def ARw (W : World) (b n k : Nat) (T : TypeId) (F : Nat → Nat → Value) : Prop := ∃ vs, Blk W b T vs ∧ ∀ i, i < n → ∀ j, j < k → vs[i * k + j]? = some (F i j)
theorem ARw.srow {W : World} {b n k : Nat} {T : TypeId} {F : Nat → Nat → Value} (h : ARw W b n k T F) : SRow W (some ⟨b, 0, none⟩) n k F := fun _ => by
  obtain ⟨vs, hb, hc⟩ := h
  exact ⟨b, 0, rfl, hb.lt, fun i hi j hj => by rw [Nat.zero_add]; exact hb.cell _ (hc i hi j hj)⟩
theorem ARw.cell {W : World} {b n k : Nat} {T : TypeId} {F : Nat → Nat → Value} (h : ARw W b n k T F) {i j : Nat} (hi : i < n) (hj : j < k) : W.cell? ⟨b, i * k + j, none⟩ = some (F i j) := by
  obtain ⟨vs, hb, hc⟩ := h
  exact hb.cell _ (hc i hi j hj)
theorem ARw.free {W : World} {b n k : Nat} {T : TypeId} {F : Nat → Nat → Value} (h : ARw W b n k T F) (j : Nat) : W.frozen? ⟨b, j, none⟩ = false := by
  obtain ⟨vs, hb, hc⟩ := h
  exact hb.free j
theorem ARw.set {W : World} {b n k : Nat} {T : TypeId} {F : Nat → Nat → Value} (h : ARw W b n k T F) {i0 j0 : Nat} (hi : i0 < n) (hj : j0 < k) (u : Value) : ARw (W.setCell ⟨b, i0 * k + j0, none⟩ u) b n k T (fun i j => if i = i0 ∧ j = j0 then u else F i j) := by
  obtain ⟨vs, hb, hc⟩ := h
  refine ⟨_, hb.set _ u, fun i hi' j hj' => ?_⟩
  by_cases e : i = i0 ∧ j = j0
  · obtain ⟨rfl, rfl⟩ := e
    have hl := hc i hi j hj
    have hlt : i * k + j < vs.length := by
      rcases Nat.lt_or_ge (i * k + j) vs.length with q | q
      · exact q
      · rw [List.getElem?_eq_none q] at hl; cases hl
    simp [hlt]
  · have hne : i0 * k + j0 ≠ i * k + j := by
      intro q
      rcases Nat.lt_trichotomy i i0 with h1 | h1 | h1
      · have := Nat.mul_le_mul_right k h1; rw [Nat.succ_mul] at this; omega
      · subst h1; exact e ⟨rfl, by omega⟩
      · have := Nat.mul_le_mul_right k h1; rw [Nat.succ_mul] at this; omega
    show _ = some (if i = i0 ∧ j = j0 then u else F i j)
    rw [if_neg e, List.getElem?_set_ne hne]
    exact hc i hi' j hj'
theorem ARw.congr {W : World} {b n k : Nat} {T : TypeId} {F G : Nat → Nat → Value} (h : ARw W b n k T F) (e : ∀ i, i < n → ∀ j, j < k → F i j = G i j) : ARw W b n k T G := by
  obtain ⟨vs, hb, hc⟩ := h
  exact ⟨vs, hb, fun i hi j hj => by rw [← e i hi j hj]; exact hc i hi j hj⟩
theorem ARw.below {W W' : World} {b n k : Nat} {T : TypeId} {F : Nat → Nat → Value} {B : Nat} (h : ARw W b n k T F) (g : Below B W W') (hb : b < B) : ARw W' b n k T F := by
  obtain ⟨vs, hv, hc⟩ := h
  exact ⟨vs, (g.block b hb).trans hv, hc⟩
theorem ARw.lt {W : World} {b n k : Nat} {T : TypeId} {F : Nat → Nat → Value} (h : ARw W b n k T F) : b < W.heap.size := by
  obtain ⟨vs, hb, _⟩ := h
  exact hb.lt

theorem info_areaP : (Try.prog.info? 26).map (fun i => (i.zero, i.size, i.bytes)) = some (some (.agg #[.int .i64 0, .int .i64 0, .int .i64 0]), 3, 24) := by kernel_rfl
theorem made_area (m k : Nat) (h : k < m) : (madeCells #[.int .i64 0, .int .i64 0, .int .i64 0] m)[k]? = some (.int .i64 0) := by
  have hs : (madeCells #[Value.int .i64 0, .int .i64 0, .int .i64 0] m).size = m := by simp [madeCells]
  rw [Array.getElem?_eq_getElem (by rw [hs]; exact h)]
  simp only [madeCells, Array.getElem_map, Array.getElem_range]
  congr 1
  have : k % 3 = 0 ∨ k % 3 = 1 ∨ k % 3 = 2 := by omega
  show #[Value.int .i64 0, .int .i64 0, .int .i64 0][k % 3]! = _
  rcases this with e | e | e <;> rw [e] <;> rfl
theorem make_areas (n : Nat) (hn : n ≤ 100000) (w : World) :
    (Instr.makeSlice 23 (.int .i64 (n : Int)) (.int .i64 (n : Int))).run Try.prog w = .ok (.slice (some ⟨w.heap.size, 0, none⟩) n n) (w.alloc (.cells (madeCells #[.int .i64 0, .int .i64 0, .int .i64 0] (n * 3)) 26)) := by
  obtain ⟨i, hi, hz0, hz1, hz2⟩ := info_partsG info_areaP
  have hr := run_make (P := Try.prog) w 23 26 i _ Try.underlying23 hi hz0 .i64 .i64 n n (by omega) (by omega) (by rw [hz2]; omega) (by omega)
  simp only [Int.toNat_natCast] at hr
  rw [hr, hz1]
  rfl
def arK (cols : Int) (f : Nat → Int) (k i j : Nat) : Value := if i < k then arV cols f i j else .int .i64 0
set_option maxHeartbeats 8000000 in
set_option maxRecDepth 100000 in
theorem gPl : KPl 9 := by
  intro cols p n c f w hr hn
  have W := fun W' => hide (gwithin_any cols 1 24 W')
  by_cases h1 : 1 ≤ cols ∧ cols ≤ 24
  case neg =>
    rw [pl_none (fun h => h1 ⟨h.1, h.2.1⟩)]
    rw [show inB cols 1 24 = false from decide_eq_false h1] at W
    clear hr
    go_enter Try.func9, Try.ntmps9
    go_wp2_with fail
    refine (W _).out.mono ?_
    rintro e w' ⟨rfl, rfl⟩
    go_wp2_with fail
    go_ret
    first | exact ⟨none, 0, rfl, srow_none _ _ _, Below.refl _ _⟩ | exact ⟨none, ⟨0, rfl⟩, srow_none _ _ _, Below.refl _ _⟩
  rw [show inB cols 1 24 = true from decide_eq_true h1] at W
  by_cases h2 : 100 < n
  · rw [pl_none (fun h => by omega)]
    have hz : (100 : Int) < (n : Int) := by omega
    have hd : decide ((100 : Int) < (n : Int)) = true := decide_eq_true hz
    clear hr
    go_enter Try.func9, Try.ntmps9
    go_wp2_with fail
    refine (W _).out.mono ?_
    rintro e w' ⟨rfl, rfl⟩
    go_wp2_with fail
    go_ret
    first | exact ⟨none, 0, rfl, srow_none _ _ _, Below.refl _ _⟩ | exact ⟨none, ⟨0, rfl⟩, srow_none _ _ _, Below.refl _ _⟩
  rw [pl_some ⟨h1.1, h1.2, by omega⟩]
  have hz : ¬ (100 : Int) < (n : Int) := by omega
  have hd : decide ((100 : Int) < (n : Int)) = false := decide_eq_false hz
  have H := hide hr
  obtain ⟨hc1, hc2⟩ := h1
  have hmk : ∀ W : World, (Instr.makeSlice 23 (.int .i64 (n : Int)) (.int .i64 (n : Int))).run Try.prog W = .ok (.slice (some ⟨W.heap.size, 0, none⟩) n n) (W.alloc (.cells (madeCells #[.int .i64 0, .int .i64 0, .int .i64 0] (n * 3)) 26)) := make_areas n (by omega)
  have B1 : Hid (Below w.heap.size w (w.alloc (.cells (madeCells #[.int .i64 0, .int .i64 0, .int .i64 0] (n * 3)) 26))) := (Below.refl _ _).alloc (Nat.le_refl _) _
  have R1 : Hid (ARw (w.alloc (.cells (madeCells #[.int .i64 0, .int .i64 0, .int .i64 0] (n * 3)) 26)) w.heap.size n 3 26 (arK cols f 0)) := ⟨(madeCells #[.int .i64 0, .int .i64 0, .int .i64 0] (n * 3)).toList, by
    have e := heap_alloc_new w (.cells (madeCells #[.int .i64 0, .int .i64 0, .int .i64 0] (n * 3)) 26)
    unfold Blk
    rw [e], fun i hi j hj => by
    have hlt : i * 3 + j < n * 3 := by omega
    have := made_area (n * 3) (i * 3 + j) hlt
    unfold arK
    rw [if_neg (Nat.not_lt_zero _)]
    simpa using this⟩
  clear hr
  go_enter Try.func9, Try.ntmps9
  go_wp2_with fail
  refine (W _).out.mono ?_
  rintro e w' ⟨rfl, rfl⟩
  clear W
  go_wp2_with fail
  clear hmk
  obtain ⟨rb, hrb⟩ : ∃ q, q = w.heap.size := ⟨_, rfl⟩
  rw [← hrb] at R1 ⊢
  have NE : Hid (w.heap.size ≤ rb) := Nat.le_of_eq hrb.symm
  clear hrb
  generalize w.alloc (.cells (madeCells #[.int .i64 0, .int .i64 0, .int .i64 0] (n * 3)) 26) = w1 at *
  go_loopg [6, 7, 24] (n + 1) (fun g1 vr vc vk wr => ∃ k : Nat, vr = .int .i64 (stP cols f k).1 ∧ vc = .int .i64 (stP cols f k).2 ∧ vk = .int .i64 (k : Int) ∧ k ≤ n ∧ n - k < g1 ∧ Hid (Below w.heap.size w wr) ∧ Hid (ARw wr rb n 3 26 (arK cols f k)))
  case atStart => exact ⟨0, rfl, rfl, by go_num, by omega, by omega, B1, R1⟩
  case round =>
    clear B1 R1
    obtain ⟨wo, rfl⟩ : ∃ wo : World, wo = wr := ⟨_, rfl⟩
    obtain ⟨k, rfl, rfl, rfl, hk, hg, B, R⟩ := hrel
    by_cases hlt : k < n
    · have hltz : (k : Int) < (n : Int) := by omega
      obtain ⟨b, off, rfl, hb⟩ := (H.out.below B.out) (by omega)
      have ck : wo.cell? ⟨b, off + k, none⟩ = some (.int .i64 (f k)) := hb k hlt
      have KC := fun W => hide (Clamp_any (f k) 1 cols W)
      have ss := st_succ cols f k
      have sb := st_bd hc1 f k
      have pb := sp_bd hc1 f k
      have eR : arR cols f k = if cols < (stP cols f k).2 + spG cols f k then (stP cols f k).1 + 1 else (stP cols f k).1 := rfl
      have eC : arC cols f k = if cols < (stP cols f k).2 + spG cols f k then 0 else (stP cols f k).2 := rfl
      have y0 := R.out.cell hlt (show 0 < 3 by decide)
      have y1 := R.out.cell hlt (show 1 < 3 by decide)
      have y2 := R.out.cell hlt (show 2 < 3 by decide)
      have e0 : arK cols f k k 0 = .int .i64 0 := by unfold arK; rw [if_neg (Nat.lt_irrefl _)]
      have e1 : arK cols f k k 1 = .int .i64 0 := by unfold arK; rw [if_neg (Nat.lt_irrefl _)]
      have e2 : arK cols f k k 2 = .int .i64 0 := by unfold arK; rw [if_neg (Nat.lt_irrefl _)]
      rw [e0, Nat.add_zero] at y0
      rw [e1] at y1
      rw [e2] at y2
      have z0 := R.out.free (k * 3)
      have z1 := R.out.free (k * 3 + 1)
      have z2 := R.out.free (k * 3 + 2)
      rw [show clampS (f k) 1 cols = spG cols f k from rfl] at KC
      obtain ⟨⟨sb1, sb2⟩, sb3, sb4⟩ := sb
      obtain ⟨pb1, pb2⟩ := pb
      obtain ⟨ss1, ss2⟩ := ss
      have STEP : Hid (∀ W : World, ARw W rb n 3 26 (arK cols f k) → ARw (((W.setCell ⟨rb, k * 3, none⟩ (.int .i64 (arR cols f k))).setCell ⟨rb, k * 3 + 1, none⟩ (.int .i64 (arC cols f k))).setCell ⟨rb, k * 3 + 2, none⟩ (.int .i64 (spG cols f k))) rb n 3 26 (arK cols f (k + 1))) := fun W h => by
        refine (((h.set hlt (show 0 < 3 by decide) _).set hlt (show 1 < 3 by decide) _).set hlt (show 2 < 3 by decide) _).congr fun i hi j hj => ?_
        unfold arK
        by_cases hik : i = k
        · subst hik
          rw [if_pos (show i < i + 1 by omega)]
          rcases (show j = 0 ∨ j = 1 ∨ j = 2 by omega) with rfl | rfl | rfl <;> simp [arV]
        · by_cases h3 : i < k
          · simp [hik, h3, show i < k + 1 by omega]
          · simp [hik, h3, show ¬ i < k + 1 by omega]
      have BST : Hid (∀ x y z, Below w.heap.size w (((wo.setCell ⟨rb, k * 3, none⟩ x).setCell ⟨rb, k * 3 + 1, none⟩ y).setCell ⟨rb, k * 3 + 2, none⟩ z)) := fun x y z => ((B.out.setCell NE.out _).setCell NE.out _).setCell NE.out _
      have NR := hide (STEP.out wo R.out)
      clear STEP hb e0 e1 e2 B R
      by_cases q : cols < (stP cols f k).2 + spG cols f k
      · rw [if_pos q] at eR eC
        rw [eR] at ss1
        rw [eC] at ss2
        rw [eR, eC] at NR
        have es : Hid ((stP cols f (k + 1)).1 = (stP cols f k).1 + 1 ∧ (stP cols f (k + 1)).2 = 0 + spG cols f k) := ⟨ss1, ss2⟩
        have NB := hide (BST.out (.int .i64 ((stP cols f k).1 + 1)) (.int .i64 0) (.int .i64 (spG cols f k)))
        clear eR eC ss1 ss2 BST
        generalize (stP cols f k).1 = R at *
        generalize (stP cols f k).2 = C at *
        generalize spG cols f k = s at *
        generalize f k = fk at *
        have v1 : IntKind.i64.wrap (C + s) = C + s := wr (by omega) (by omega)
        have v2 : IntKind.i64.wrap (R + 1) = R + 1 := wr (by omega) (by omega)
        have v3 : IntKind.i64.wrap s = s := wr (by omega) (by omega)
        go_wp2_with fail
        refine (KC _).out.mono ?_
        rintro e w' ⟨rfl, rfl⟩
        clear KC
        go_wp2_with fail
        go_roundg (n - k)
        case measure => omega
        case rel => exact ⟨k + 1, by rw [es.out.1], by rw [es.out.2, Int.zero_add], by go_num, by omega, by omega, NB, NR⟩
      · rw [if_neg q] at eR eC
        rw [eR] at ss1
        rw [eC] at ss2
        rw [eR, eC] at NR
        have es : Hid ((stP cols f (k + 1)).1 = (stP cols f k).1 ∧ (stP cols f (k + 1)).2 = (stP cols f k).2 + spG cols f k) := ⟨ss1, ss2⟩
        have NB := hide (BST.out (.int .i64 (stP cols f k).1) (.int .i64 (stP cols f k).2) (.int .i64 (spG cols f k)))
        clear eR eC ss1 ss2 BST
        generalize (stP cols f k).1 = R at *
        generalize (stP cols f k).2 = C at *
        generalize spG cols f k = s at *
        generalize f k = fk at *
        have v1 : IntKind.i64.wrap (C + s) = C + s := wr (by omega) (by omega)
        go_wp2_with fail
        refine (KC _).out.mono ?_
        rintro e w' ⟨rfl, rfl⟩
        clear KC
        go_wp2_with fail
        go_roundg (n - k)
        case measure => omega
        case rel => exact ⟨k + 1, by rw [es.out.1], by rw [es.out.2], by go_num, by omega, by omega, NB, NR⟩
    · have hltz : ¬ (k : Int) < (n : Int) := by omega
      obtain rfl : n = k := by omega
      have FIN : Hid (SRow wo (some ⟨rb, 0, none⟩) n 3 (arV cols f)) := (R.out.congr (G := arV cols f) fun i hi j hj => by unfold arK; rw [if_pos hi]).srow
      go_wp2_with fail
      go_ret
      exact ⟨some ⟨rb, 0, none⟩, ⟨n, rfl⟩, FIN.out, B.out⟩
theorem lensB_true {f : Nat → Int} {n : Nat} (h : ∀ i, i < n → 0 ≤ f i ∧ f i ≤ 1048576) : lensB f n = true := (lensB_iff f n).2 h
set_option maxHeartbeats 8000000 in
set_option maxRecDepth 100000 in
theorem gSt : KSt 19 := by
  intro gap p n c f w hr hn hg hf
  have H := hide hr
  have HF := hide hf
  have hB : Hid (Below w.heap.size w (w.alloc (.cells #[.int .i64 gap] 3))) := (Below.refl _ _).alloc (Nat.le_refl _) _
  have L1 := hide (glens1 gap w)
  rw [show lenB gap = true from decide_eq_true hg] at L1
  have L2 := hide (glengths_any p n c f _ (by omega) (hr.below hB.out))
  rw [lensB_true hf] at L2
  have hmk : ∀ W : World, (Instr.makeSlice 22 (.int .i64 (n : Int)) (.int .i64 (n : Int))).run Try.prog W = .ok (.slice (some ⟨W.heap.size, 0, none⟩) n n) (W.alloc (.cells (ints n (fun _ => 0)) 3)) := make_ints n (by omega)
  have BD : Hid (∀ k, k ≤ n → 0 ≤ stF gap f k ∧ stF gap f k ≤ k * 2097152) := fun k hk => stF_bd hg fun i hi => hf i (by omega)
  clear hr hf
  go_enter Try.func19, Try.ntmps19
  go_wp2_with fail
  refine L1.out.mono ?_
  rintro e w' ⟨rfl, rfl⟩
  go_wp2_with fail
  refine L2.out.mono ?_
  rintro e w' ⟨rfl, rfl⟩
  clear L1 L2
  have B1 : Hid (Below w.heap.size w ((w.alloc (.cells #[.int .i64 gap] 3)).alloc (.cells (ints n (fun _ => 0)) 3))) := hB.out.alloc hB.out.size _
  have R1 : Hid (IRow ((w.alloc (.cells #[.int .i64 gap] 3)).alloc (.cells (ints n (fun _ => 0)) 3)) (w.alloc (.cells #[.int .i64 gap] 3)).heap.size n (fun j => if j < 0 then stF gap f j else 0)) := (IRow.new _ n (fun _ => 0)).congr fun j hj => by simp
  have NE : Hid (w.heap.size ≤ (w.alloc (.cells #[.int .i64 gap] 3)).heap.size) := hB.out.size
  clear hB
  generalize w.alloc (.cells #[.int .i64 gap] 3) = w0 at *
  go_wp2_with fail
  clear hmk
  generalize w0.alloc (.cells (ints n fun _ => 0) 3) = w1 at *
  generalize w0.heap.size = rb at *
  go_loopg [6, 23] (n + 1) (fun g1 va vk wr => ∃ k : Nat, va = .int .i64 (stF gap f k) ∧ vk = .int .i64 (k : Int) ∧ k ≤ n ∧ n - k < g1 ∧ Hid (Below w.heap.size w wr) ∧ Hid (IRow wr rb n (fun j => if j < k then stF gap f j else 0)))
  case atStart => exact ⟨0, rfl, by go_num, by omega, by omega, B1, R1⟩
  case round =>
    clear B1 R1
    obtain ⟨wo, rfl⟩ : ∃ wo : World, wo = wr := ⟨_, rfl⟩
    obtain ⟨k, rfl, rfl, hk, hgg, B, R⟩ := hrel
    by_cases hlt : k < n
    · have hltz : (k : Int) < (n : Int) := by omega
      obtain ⟨b, off, rfl, hb⟩ := (H.out.below B.out) (by omega)
      have ck : wo.cell? ⟨b, off + k, none⟩ = some (.int .i64 (f k)) := hb k hlt
      have cz := R.out.cell hlt
      simp only [Nat.lt_irrefl, if_false] at cz
      have fz := R.out.frozen k
      obtain ⟨b1, b2⟩ := BD.out k hk
      obtain ⟨f1, f2⟩ := HF.out k hlt
      have SE : Hid (stF gap f (k + 1) = stF gap f k + (f k + gap)) := rfl
      have NB : Hid (Below w.heap.size w (wo.setCell ⟨rb, k, none⟩ (.int .i64 (stF gap f k)))) := B.out.setCell NE.out _
      have NR : Hid (IRow (wo.setCell ⟨rb, k, none⟩ (.int .i64 (stF gap f k))) rb n (fun j => if j < k + 1 then stF gap f j else 0)) := (R.out.set_ k _).congr fun j _ => by
        by_cases q : j = k
        · subst q; rw [if_pos rfl, if_pos (show j < j + 1 by omega)]
        · by_cases q2 : j < k
          · rw [if_neg q, if_pos q2, if_pos (show j < k + 1 by omega)]
          · rw [if_neg q, if_neg q2, if_neg (show ¬ j < k + 1 by omega)]
      clear hb B R
      generalize hst : stF gap f k = st at *
      generalize f k = fk at *
      have w1 : IntKind.i64.wrap (fk + gap) = fk + gap := wr (by omega) (by omega)
      have w2 : IntKind.i64.wrap (st + (fk + gap)) = st + (fk + gap) := wr (by omega) (by omega)
      clear hst
      go_wp2_with fail
      go_roundg (n - k)
      case measure => omega
      case rel => exact ⟨k + 1, by rw [SE.out], by go_num, by omega, by omega, NB, NR⟩
    · have hltz : ¬ (k : Int) < (n : Int) := by omega
      obtain rfl : n = k := by omega
      go_wp2_with fail
      go_ret
      exact ⟨some ⟨rb, 0, none⟩, ⟨n, rfl⟩, (R.out.congr fun j hj => by rw [if_pos hj]).reads, B.out⟩
end Go.Proofs.Ytdoenkngmgclmaa
/- Package grid's Tracks, Least and Most answer as its laws ask; no condition. -/
namespace Go.Proofs.Ytdoenkngmgclmaa
open Go.RowKit Go.Sort
set_option linter.unusedVariables false
set_option linter.unusedSimpArgs false

theorem erG_ok {av gap : Int} {n m : Nat} {t : Nat → Tk} {I : Nat → It} (h : erG av gap n t m I = 0) : n ≤ 24 ∧ m ≤ 100 ∧ allOk av gap n t m I := by
  unfold erG at h
  by_cases h1 : 24 < n ∨ 100 < m
  · rw [if_pos h1] at h; omega
  · rw [if_neg h1] at h
    by_cases h2 : allOk av gap n t m I
    · exact ⟨by omega, by omega, h2⟩
    · rw [if_neg h2] at h; omega
set_option maxHeartbeats 8000000 in
theorem gtk_err (av gap : Int) (p q : Option Addr) (n m c d : Nat) (t : Nat → Tk) (I : Nat → It) (w : World) (hp : SRow w p n 2 (trC t)) (hq : SRow w q m 4 (itC I)) (hn : n ≤ 100000) (hm : m ≤ 100000) (h : ¬ erG av gap n t m I = 0) :
    Calls Try.prog 16 #[.int .i64 av, .int .i64 gap, .slice p n c, .slice q m d] w fun e w' => e = .returned (.tuple #[.slice none 0 0, .int .i64 (erG av gap n t m I)]) ∧ Below w.heap.size w w' := by
  have C := hide (gchk_any av gap p q n m c d t I w hp hq hn hm)
  generalize erG av gap n t m I = er at *
  have he : (er != 0) = true := by simpa using h
  clear hp hq h
  go_enter Try.func16, Try.ntmps16
  go_wp2_with fail
  refine C.out.mono ?_
  rintro e w1 ⟨rfl, hB⟩
  have B1 := hide hB
  clear hB C
  go_wp2_with fail
  go_ret2
  exact ⟨rfl, B1.out⟩
set_option maxHeartbeats 8000000 in
set_option maxRecDepth 100000 in
theorem gtk_ok (av gap : Int) (p q : Option Addr) (n m c d : Nat) (t : Nat → Tk) (I : Nat → It) (w : World) (hp : SRow w p n 2 (trC t)) (hq : SRow w q m 4 (itC I)) (hcn : n ≤ c) (hn : n ≤ 24) (hm : m ≤ 100) (hok : allOk av gap n t m I) (he : erG av gap n t m I = 0) :
    Calls Try.prog 16 #[.int .i64 av, .int .i64 gap, .slice p n c, .slice q m d] w fun e w' => ∃ r u, e = .returned (.tuple #[.slice r n u, .int .i64 0]) ∧ Reads w' r n (trF av t gap I n m) ∧ Below w.heap.size w w' := by
  have C := hide (gchk_any av gap p q n m c d t I w hp hq (by omega) (by omega))
  rw [he] at C
  obtain ⟨ha, hg, ht, hI⟩ := hok
  have ND := fun (W : World) (h : Below w.heap.size w W) => hide (new_dm gap p q n m c d t I W (hp.below h) (hq.below h) hcn hn hm hg ht hI)
  have GS := fun W => hide (ggapSum_any gap n W hg (by omega))
  have ES := gs_spc av gap n
  have gb := gs_bd (n := n) hg (by omega)
  have ws : IntKind.i64.wrap (av - gsF gap n) = spcF av gap n := by rw [ES, IntKind.wrap_i64]; omega
  have CS := fun (w0 W : World) (d lb mb : Nat) (D : Dm w0 W d lb mb gap p n c t (lqF t gap I n m) (mqF t gap I n m)) => hide (cs_any w0 W d lb mb av gap p n c m t I D hn ha hg ht hI)
  have FL := fun (w0 W : World) (d lb mb : Nat) (D : Dm w0 W d lb mb gap p n c t (lqF t gap I n m) (mqF t gap I n m)) (q : Option Addr) (sb k0 : Nat) (hS : 0 < n → q = some ⟨sb, 0, none⟩ ∧ CRw W sb n (s1G av t gap I n m)) => hide (fill_any w0 W d lb mb av gap p n c m t I D q sb k0 hS hn hm ha hg ht hI)
  clear hp hq ht hI he ES gb
  generalize spcF av gap n = sp at *
  generalize lqF t gap I n m = lq at *
  generalize mqF t gap I n m = mq at *
  generalize s1G av t gap I n m = s1 at *
  generalize trF av t gap I n m = tr at *
  go_enter Try.func16, Try.ntmps16
  go_wp2_with fail
  refine C.out.mono ?_
  rintro e w1 ⟨rfl, hB⟩
  have B1 := hide hB
  have ND1 := ND w1 hB
  clear hB C ND
  go_wp2_with fail
  refine ND1.out.mono ?_
  rintro e w2 ⟨dd, lb, mb, rfl, hD⟩
  have CS1 := CS w1 w2 dd lb mb hD
  have D2 := hide hD
  clear hD ND1 CS
  go_wp2_with fail
  refine (GS _).out.mono ?_
  rintro e w' ⟨rfl, rfl⟩
  clear GS
  go_wp2_with fail
  refine CS1.out.mono ?_
  rintro e w3 ⟨r, sb, k, rfl, hsb, hS, hB3⟩
  have D3 := D2.out.grown hB3
  have FL1 := FL w1 w3 dd lb mb D3 r sb k hS
  have HS := hide (fun h => (hS h).1)
  have B3 : Hid (Below w.heap.size w w3) := B1.out.trans (D3.below.mono B1.out.size)
  have NS : Hid (w.heap.size ≤ sb) := Nat.le_trans B1.out.size (Nat.le_trans D2.out.below.size hsb)
  clear hsb hS hB3 D3 D2 B1 FL CS1
  go_wp2_with fail
  refine FL1.out.mono ?_
  rintro e w4 ⟨rfl, hC, hK⟩
  have HC := hide hC
  have B4 : Hid (Below w.heap.size w w4) := B3.out.trans (hK.below NS.out B3.out.size)
  clear hC hK FL1
  go_wp2_with fail
  go_ret2
  have RR : Reads w4 r n tr := fun h => by
    rw [HS.out h]
    exact (HC.out h).reads h
  first
  | exact ⟨r, k, rfl, RR, B4.out⟩
  | exact ⟨r, ⟨k, rfl⟩, RR, B4.out⟩
  | exact ⟨⟨r, k, rfl⟩, RR, B4.out⟩
  | (trace_state; fail)
theorem gTk : KTk 16 := by
  intro av gap p q n m c d t I w hp hq hc hn hm
  by_cases h : erG av gap n t m I = 0
  · obtain ⟨h1, h2, h3⟩ := erG_ok h
    simp only [h, if_true]
    exact gtk_ok av gap p q n m c d t I w hp hq hc h1 h2 h3 h
  · simp only [if_neg h]
    refine (gtk_err av gap p q n m c d t I w hp hq hn hm h).mono ?_
    rintro e w' ⟨rfl, hB⟩
    exact ⟨none, 0, rfl, reads_none _ _, hB⟩
set_option maxHeartbeats 8000000 in
set_option maxRecDepth 100000 in
theorem gLs : KLs 18 := by
  intro gap p q n m c d t I w hp hq hcn hn hm
  have C := hide (gchk_any 0 gap p q n m c d t I w hp hq hn hm)
  by_cases h : erG 0 gap n t m I = 0
  · obtain ⟨h1, h2, h3⟩ := erG_ok h
    rw [h] at C
    rw [if_pos h]
    obtain ⟨_, hg, ht, hI⟩ := h3
    have ND := fun (W : World) (h : Below w.heap.size w W) => hide (new_dm gap p q n m c d t I W (hp.below h) (hq.below h) hcn h1 h2 hg ht hI)
    have BD : Hid (∀ i, i < n → 0 ≤ lqF t gap I n m i ∧ lqF t gap I n m i ≤ 134217728) := fun i hi => by
      have a := lq_tight (m := m) hg.1 ht hI hi
      have b := mq_tight (m := m) hg.1 ht hI hi
      omega
    have EX := fun (W : World) (b : Nat) (h : IRow W b n (lqF t gap I n m)) => hide (gext_any gap (some ⟨b, 0, none⟩) n n _ W h.reads h1 hg BD.out)
    clear hp hq ht hI h BD
    generalize lqF t gap I n m = lq at *
    generalize mqF t gap I n m = mq at *
    go_enter Try.func18, Try.ntmps18
    go_wp2_with fail
    refine C.out.mono ?_
    rintro e w1 ⟨rfl, hB⟩
    have B1 := hide hB
    have ND1 := ND w1 hB
    clear hB C ND
    go_wp2_with fail
    refine ND1.out.mono ?_
    rintro e w2 ⟨dd, lb, mb, rfl, hD⟩
    have EX1 := EX w2 lb hD.l
    have c2 := hD.blk.cell 2 rfl
    have B2 : Hid (Below w.heap.size w w2) := B1.out.trans (hD.below.mono B1.out.size)
    clear hD ND1 EX B1
    go_wp2_with fail
    refine EX1.out.mono ?_
    rintro e w' ⟨rfl, rfl⟩
    go_wp2_with fail
    go_ret
    exact ⟨rfl, B2.out⟩
  · rw [if_neg h]
    generalize erG 0 gap n t m I = er at *
    have he : (er != 0) = true := by simpa using h
    clear hp hq h
    go_enter Try.func18, Try.ntmps18
    go_wp2_with fail
    refine C.out.mono ?_
    rintro e w1 ⟨rfl, hB⟩
    have B1 := hide hB
    clear hB C
    go_wp2_with fail
    go_ret
    exact ⟨rfl, B1.out⟩
set_option maxHeartbeats 8000000 in
set_option maxRecDepth 100000 in
theorem gMs : KMs 26 := by
  intro gap p q n m c d t I w hp hq hcn hn hm
  have C := hide (gchk_any 0 gap p q n m c d t I w hp hq hn hm)
  by_cases h : erG 0 gap n t m I = 0
  · obtain ⟨h1, h2, h3⟩ := erG_ok h
    rw [h] at C
    rw [if_pos h]
    obtain ⟨_, hg, ht, hI⟩ := h3
    have ND := fun (W : World) (h : Below w.heap.size w W) => hide (new_dm gap p q n m c d t I W (hp.below h) (hq.below h) hcn h1 h2 hg ht hI)
    have BD : Hid (∀ i, i < n → 0 ≤ mqF t gap I n m i ∧ mqF t gap I n m i ≤ 134217728) := fun i hi => by
      have a := lq_tight (m := m) hg.1 ht hI hi
      have b := mq_tight (m := m) hg.1 ht hI hi
      omega
    have EX := fun (W : World) (b : Nat) (h : IRow W b n (mqF t gap I n m)) => hide (gext_any gap (some ⟨b, 0, none⟩) n n _ W h.reads h1 hg BD.out)
    clear hp hq ht hI h BD
    generalize lqF t gap I n m = lq at *
    generalize mqF t gap I n m = mq at *
    go_enter Try.func26, Try.ntmps26
    go_wp2_with fail
    refine C.out.mono ?_
    rintro e w1 ⟨rfl, hB⟩
    have B1 := hide hB
    have ND1 := ND w1 hB
    clear hB C ND
    go_wp2_with fail
    refine ND1.out.mono ?_
    rintro e w2 ⟨dd, lb, mb, rfl, hD⟩
    have EX1 := EX w2 mb hD.m
    have c2 := hD.blk.cell 3 rfl
    have B2 : Hid (Below w.heap.size w w2) := B1.out.trans (hD.below.mono B1.out.size)
    clear hD ND1 EX B1
    go_wp2_with fail
    refine EX1.out.mono ?_
    rintro e w' ⟨rfl, rfl⟩
    go_wp2_with fail
    go_ret
    exact ⟨rfl, B2.out⟩
  · rw [if_neg h]
    generalize erG 0 gap n t m I = er at *
    have he : (er != 0) = true := by simpa using h
    clear hp hq h
    go_enter Try.func26, Try.ntmps26
    go_wp2_with fail
    refine C.out.mono ?_
    rintro e w1 ⟨rfl, hB⟩
    have B1 := hide hB
    clear hB C
    go_wp2_with fail
    go_ret
    exact ⟨rfl, B1.out⟩
end Go.Proofs.Ytdoenkngmgclmaa
