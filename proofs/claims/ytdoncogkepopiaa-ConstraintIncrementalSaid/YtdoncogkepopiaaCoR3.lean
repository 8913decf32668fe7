/- The reference's Solve answers as the laws of package constraint ask; no condition. -/
import Derived.Test.YtdoncogkepopiaaCoR2
import Derived.Test.YtdoncogkepopiaaCopR
namespace Go.Proofs.Ytdoncogkepopiaa
open Go.RowKit Go.Sort
set_option linter.unusedVariables false
set_option linter.unusedSimpArgs false

theorem info_cn : (Try.prog.info? 40).map (fun i => (i.zero, i.size, i.bytes)) = some (some (.agg #[.int .i64 0, .int .i64 0, .int .i64 0, .int .i64 0, .int .i64 0]), 5, 40) := by kernel_rfl
theorem info_partsS {i : Option TypeInfo} {z : Value} {n m : Nat} (h : i.map (fun i => (i.zero, i.size, i.bytes)) = some (some z, n, m)) : ∃ j, i = some j ∧ j.zero = some z ∧ j.size = n ∧ j.bytes = m := by
  cases i with
  | none => simp at h
  | some j => simp at h; exact ⟨j, rfl, h.1, h.2.1, h.2.2⟩
theorem cn_one (l : Nat → Cn) (i r : Nat) : (cnC l i r).oneCell' = true := by
  unfold cnC
  split <;> rfl
theorem setZ {W : World} {sk : Nat} {vs : List Value} (h : Blk W sk 26 vs) (hl : vs.length = 4) (a b c d : Value) : Blk ((((W.setCell ⟨sk, 0, none⟩ a).setCell ⟨sk, 1, none⟩ b).setCell ⟨sk, 2, none⟩ c).setCell ⟨sk, 3, none⟩ d) sk 26 [a, b, c, d] := by
  refine Blk.set_as (Blk.set (Blk.set (Blk.set h 0 a) 1 b) 2 c) 3 d ?_
  match vs, hl with
  | [x0, x1, x2, x3], _ => rfl
set_option maxHeartbeats 40000000 in
set_option maxRecDepth 100000 in
theorem rSo : KSo 11 := by
  intro vars p m c l w hp hmc hm
  have K1 : Hid (Blk (w.alloc (.cells #[.int .i64 0, .slice none 0 0, .slice none 0 0, .slice none 0 0] 26)) w.heap.size 26 [.int .i64 0, .slice none 0 0, .slice none 0 0, .slice none 0 0]) := Blk.new rfl
  have B1 : Hid (Below w.heap.size w (w.alloc (.cells #[.int .i64 0, .slice none 0 0, .slice none 0 0, .slice none 0 0] 26))) := (Below.refl _ _).alloc (Nat.le_refl _) _
  have RET : Hid (∀ (tm : Array Value) (W : World) (sk : Nat) (er : Int) (cs : List Value), tm.getD 4 undef = .pointer (some ⟨sk, 0, none⟩) → tm.getD 5 undef = .int .i64 er → Blk W sk 26 cs → cs.length = 4 → (results Try.f11 tm).run Try.prog W = .ok (.tuple #[.agg cs.toArray, .int .i64 er]) W) := fun tm W sk er cs h1 h2 h3 h4 => by
    have := results_row_tmp (P := Try.prog) (fn := Try.f11) (p := 4) (u := 5) (ty := 26) rfl tm W sk 26 cs.toArray (0, 0) _ h1 h3 Try.underlying26 rfl (by rw [List.size_toArray, h4]; kernel_rfl)
    rw [this, h2]
  by_cases hv : vars < 0 ∨ 64 < vars
  · have E := hide (erS_low (m := m) (l := l) hv)
    clear hp
    rcases (show vars < 0 ∨ (¬ vars < 0 ∧ 64 < vars) by omega) with h | ⟨h, h'⟩
    · have d1 : decide (vars < 0) = true := decide_eq_true h
      go_enter Try.func11, Try.ntmps11
      go_wp2_with fail
      refine bodyPost_ret (RET.out _ _ _ _ _ rfl rfl K1.out rfl) rfl ?_
      exact so_err E.out (by decide) B1.out
    · have d1 : decide (vars < 0) = false := decide_eq_false h
      have d2 : decide (64 < vars) = true := decide_eq_true h'
      go_enter Try.func11, Try.ntmps11
      go_wp2_with fail
      refine bodyPost_ret (RET.out _ _ _ _ _ rfl rfl K1.out rfl) rfl ?_
      exact so_err E.out (by decide) B1.out
  obtain ⟨nv, rfl⟩ : ∃ nv : Nat, vars = (nv : Int) := ⟨vars.toNat, by omega⟩
  have hn : nv ≤ 64 := by omega
  have d1 : decide ((nv : Int) < 0) = false := decide_eq_false (by omega)
  have d2 : decide (64 < (nv : Int)) = false := decide_eq_false (by omega)
  by_cases hl : 200 < m
  · have E := hide (erS_long (l := l) hv hl)
    have hz : (200 : Int) < (m : Int) := by omega
    clear hp
    go_enter Try.func11, Try.ntmps11
    go_wp2_with fail
    refine bodyPost_ret (RET.out _ _ _ _ _ rfl rfl K1.out rfl) rfl ?_
    exact so_err E.out (by decide) B1.out
  have hz : ¬ (200 : Int) < (m : Int) := by omega
  have HP := hide hp
  have EB : Hid (∀ k, k < m → ¬ okC nv (l k) → erS (nv : Int) m l = 1) := fun k hk h => erS_bad hv hl hk h
  have EC : Hid ((∀ k, k < m → okC nv (l k)) → ¬ Feas nv m l (ac0 l) → erS (nv : Int) m l = 13) := fun h1 h2 => erS_conf hn hl h1 h2
  have EO : Hid ((∀ k, k < m → okC nv (l k)) → Feas nv m l (ac0 l) → erS (nv : Int) m l = 0) := fun h1 h2 => erS_ok hn hl h1 h2
  have hmk : ∀ W : World, (Instr.makeSlice 23 (.int .i64 (m : Int)) (.int .i64 (m : Int))).run Try.prog W = .ok (.slice (some ⟨W.heap.size, 0, none⟩) m m) (W.alloc (.cells (bools m (fun _ => false)) 4)) := make_bools m (by omega)
  have hvm : ¬ (200 < m) := hl
  clear hp hv hl
  go_enter Try.func11, Try.ntmps11
  go_wp2_with fail
  have SK : Hid (w.heap.size ≤ w.heap.size) := Nat.le_refl _
  have B2 : Hid (Below w.heap.size w ((w.alloc (.cells #[.int .i64 0, .slice none 0 0, .slice none 0 0, .slice none 0 0] 26)).alloc (.cells (bools m (fun _ => false)) 4))) := B1.out.alloc B1.out.size _
  have K2 : Hid (Blk ((w.alloc (.cells #[.int .i64 0, .slice none 0 0, .slice none 0 0, .slice none 0 0] 26)).alloc (.cells (bools m (fun _ => false)) 4)) w.heap.size 26 [.int .i64 0, .slice none 0 0, .slice none 0 0, .slice none 0 0]) := K1.out.alloc _
  have H2 : Hid (BRow ((w.alloc (.cells #[.int .i64 0, .slice none 0 0, .slice none 0 0, .slice none 0 0] 26)).alloc (.cells (bools m (fun _ => false)) 4)) (w.heap.size + 1) m (fun j => if j < 0 then ac0 l j else false)) := by
    have := (BRow.new (w.alloc (.cells #[.int .i64 0, .slice none 0 0, .slice none 0 0, .slice none 0 0] 26)) m (fun _ => false)).congr (g := fun j => if j < 0 then ac0 l j else false) fun j hj => by simp
    rw [World.size_alloc] at this
    exact this
  have NE : Hid (w.heap.size ≤ w.heap.size + 1 ∧ w.heap.size ≠ w.heap.size + 1) := by
    show _ ∧ _
    omega
  clear K1 B1
  go_wp2_with fail
  clear hmk
  generalize w.alloc (.cells #[.int .i64 0, .slice none 0 0, .slice none 0 0, .slice none 0 0] 26) = w0 at *
  generalize w0.alloc (.cells (bools m fun _ => false) 4) = w1 at *
  generalize w.heap.size + 1 = hb at *
  obtain ⟨sk, hsk⟩ : ∃ sk, sk = w.heap.size := ⟨_, rfl⟩
  rw [← hsk] at K2 NE ⊢
  have HSK : Hid (w.heap.size ≤ sk) := Nat.le_of_eq hsk.symm
  clear hsk SK
  go_loopg [7] (m + 1) (fun g1 vk wr => ∃ k : Nat, vk = .int .i64 (k : Int) ∧ k ≤ m ∧ m - k < g1 ∧ Hid (∀ i, i < k → okC nv (l i)) ∧ Hid (Below w.heap.size w wr) ∧ Hid (Blk wr sk 26 [.int .i64 0, .slice none 0 0, .slice none 0 0, .slice none 0 0]) ∧ Hid (BRow wr hb m (fun j => if j < k then ac0 l j else false)))
  case atStart => exact ⟨0, by go_num, by omega, by omega, fun i hi => absurd hi (Nat.not_lt_zero _), B2, K2, H2⟩
  case round =>
    clear B2 K2 H2
    obtain ⟨wo, rfl⟩ : ∃ wo : World, wo = wr := ⟨_, rfl⟩
    obtain ⟨k, rfl, hk, hg, OK, B, KB, HR⟩ := hrel
    by_cases hlk : k < m
    · have hlkz : (k : Int) < (m : Int) := by omega
      have hk0 : (0 : Int) ≤ (k : Int) := by omega
      obtain ⟨pb, poff, rfl, hpb, hpc⟩ := (HP.out.below B.out) (by omega)
      have c0 : wo.cell? ⟨pb, poff + k * 5, none⟩ = some (.int .i64 (l k).a) := hpc k hlk 0 (by decide)
      have c1 : wo.cell? ⟨pb, poff + k * 5 + 1, none⟩ = some (.int .i64 (l k).b) := hpc k hlk 1 (by decide)
      have c2 : wo.cell? ⟨pb, poff + k * 5 + 2, none⟩ = some (.int .i64 (l k).rel) := hpc k hlk 2 (by decide)
      have c3 : wo.cell? ⟨pb, poff + k * 5 + 3, none⟩ = some (.int .i64 (l k).cc) := hpc k hlk 3 (by decide)
      have c4 : wo.cell? ⟨pb, poff + k * 5 + 4, none⟩ = some (.int .i64 (l k).st) := hpc k hlk 4 (by decide)
      have V := fun W => hide (rvalid_any nv (l k) W)
      have GOOD : Hid (okCB nv (l k) = true → ∀ i, i < k + 1 → okC nv (l i)) := fun h i hi => by
        rcases Nat.lt_or_ge i k with h1 | h1
        · exact OK.out i h1
        · rw [show i = k by omega]; exact (okCB_iff _ _).1 h
      have BAD : Hid (okCB nv (l k) = false → erS (nv : Int) m l = 1) := fun h => EB.out k hlk fun ho => by
        rw [(okCB_iff _ _).2 ho] at h
        exact Bool.noConfusion h
      have C4 : Hid (∀ W', Below wo.heap.size wo W' → W'.cell? ⟨pb, poff + k * 5 + 4, none⟩ = some (.int .i64 (l k).st)) := fun W' h => (h.cell (p := ⟨pb, poff + k * 5 + 4, none⟩) hpb).trans c4
      have AC : Hid (ac0 l k = decide ((l k).st = 0)) := rfl
      clear hpc hpb OK
      unfold cnU at V
      generalize okCB nv (l k) = v at *
      generalize (l k).a = la at *
      generalize (l k).b = lb at *
      generalize (l k).rel = lr at *
      generalize (l k).cc = lc at *
      generalize (l k).st = ls at *
      cases v
      · have E1 := hide (BAD.out rfl)
        clear BAD GOOD C4 AC
        go_wp2_with fail
        refine (V _).out.mono ?_
        rintro e w5 ⟨rfl, h⟩
        have B5 : Hid (Below w.heap.size w w5) := B.out.trans (h.mono B.out.size)
        have K5 : Hid (Blk w5 sk 26 [.int .i64 0, .slice none 0 0, .slice none 0 0, .slice none 0 0]) := (h.block sk KB.out.lt).trans KB.out
        clear h V c0 c1 c2 c3 c4 B KB HR
        have KZ := hide (setZ K5.out rfl (.int .i64 0) (.slice none 0 0) (.slice none 0 0) (.slice none 0 0))
        have BZ : Hid (∀ a b c d, Below w.heap.size w ((((w5.setCell ⟨sk, 0, none⟩ a).setCell ⟨sk, 1, none⟩ b).setCell ⟨sk, 2, none⟩ c).setCell ⟨sk, 3, none⟩ d)) := fun a b c d => (((B5.out.setCell HSK.out _).setCell HSK.out _).setCell HSK.out _).setCell HSK.out _
        have y0 := K5.out.cell 0 rfl
        have y1 := K5.out.cell 1 rfl
        have y2 := K5.out.cell 2 rfl
        have y3 := K5.out.cell 3 rfl
        have z0 := K5.out.free 0
        have z1 := K5.out.free 1
        have z2 := K5.out.free 2
        have z3 := K5.out.free 3
        go_wp2_with fail
        refine bodyPost_ret (RET.out _ _ _ _ _ rfl rfl KZ.out rfl) rfl ?_
        exact so_err E1.out (by decide) (BZ.out _ _ _ _)
      · have GG := hide (GOOD.out rfl)
        clear BAD GOOD
        go_wp2_with fail
        refine (V _).out.mono ?_
        rintro e w5 ⟨rfl, h⟩
        have B5 : Hid (Below w.heap.size w w5) := B.out.trans (h.mono B.out.size)
        have K5 : Hid (Blk w5 sk 26 [.int .i64 0, .slice none 0 0, .slice none 0 0, .slice none 0 0]) := (h.block sk KB.out.lt).trans KB.out
        have H5 : Hid (BRow w5 hb m (fun j => if j < k then ac0 l j else false)) := HR.out.below h HR.out.lt
        have c4' := C4.out w5 h
        clear h V c0 c1 c2 c3 c4 B KB HR C4
        have cz := H5.out.cell hlk
        rw [if_neg (Nat.lt_irrefl _)] at cz
        have fz := H5.out.frozen k
        have NB : Hid (∀ v, Below w.heap.size w (w5.setCell ⟨hb, k, none⟩ (.bool v))) := fun v => B5.out.setCell (Nat.le_trans HSK.out NE.out.1) _
        have NK : Hid (∀ v, Blk (w5.setCell ⟨hb, k, none⟩ (.bool v)) sk 26 [.int .i64 0, .slice none 0 0, .slice none 0 0, .slice none 0 0]) := fun v => K5.out.other NE.out.2 _
        have NH : Hid (∀ v, v = ac0 l k → BRow (w5.setCell ⟨hb, k, none⟩ (.bool v)) hb m (fun j => if j < k + 1 then ac0 l j else false)) := fun v hv => (H5.out.set_ k v).congr fun j _ => by
          by_cases q : j = k
          · subst q; rw [if_pos rfl, if_pos (show j < j + 1 by omega), hv]
          · by_cases q2 : j < k
            · rw [if_neg q, if_pos q2, if_pos (show j < k + 1 by omega)]
            · rw [if_neg q, if_neg q2, if_neg (show ¬ j < k + 1 by omega)]
        clear B5 K5 H5
        by_cases h0 : ls = 0
        · have e1 : (ls == 0) = true := by simpa using h0
          have e2 : ac0 l k = true := by rw [AC.out]; exact decide_eq_true h0
          have NH := hide (NH.out true e2.symm)
          clear h0 e2 AC
          go_wp2_with fail
          go_roundg (m - k)
          case measure => omega
          case rel => exact ⟨k + 1, by go_num, by omega, by omega, GG, NB.out _, NK.out _, NH⟩
        · have e1 : (ls == 0) = false := by simpa using h0
          have e2 : ac0 l k = false := by rw [AC.out]; exact decide_eq_false h0
          have NH := hide (NH.out false e2.symm)
          clear h0 e2 AC
          go_wp2_with fail
          go_roundg (m - k)
          case measure => omega
          case rel => exact ⟨k + 1, by go_num, by omega, by omega, GG, NB.out _, NK.out _, NH⟩
    · have hlkz : ¬ (k : Int) < (m : Int) := by omega
      obtain rfl : m = k := by omega
      have HC := hide OK.out
      have H3 : Hid (BRow wo hb m (ac0 l)) := HR.out.congr fun j hj => by rw [if_pos hj]
      have L1 := hide (rlst_any nv p (some ⟨hb, 0, none⟩) m c m l (ac0 l) wo (HP.out.below B.out) H3.out.breads hn (by omega) HC.out)
      clear HR EB OK
      go_wp2_with fail
      refine L1.out.mono ?_
      rintro e w3 ⟨hor, h⟩
      have B3 : Hid (Below w.heap.size w w3) := B.out.trans (h.mono B.out.size)
      have K3 : Hid (Blk w3 sk 26 [.int .i64 0, .slice none 0 0, .slice none 0 0, .slice none 0 0]) := (h.block sk KB.out.lt).trans KB.out
      have H4 : Hid (BRow w3 hb m (ac0 l)) := H3.out.below h H3.out.lt
      have HLT : Hid (hb < wo.heap.size) := H3.out.lt
      rcases hor with ⟨hF, b, rfl, hb2, hX⟩ | ⟨hF, rfl⟩
      case inr =>
        have E1 := hide (EC.out HC.out hF)
        clear h B KB H3 L1 hF H4
        have KZ := hide (setZ K3.out rfl (.int .i64 0) (.slice none 0 0) (.slice none 0 0) (.slice none 0 0))
        have BZ : Hid (∀ a b c d, Below w.heap.size w ((((w3.setCell ⟨sk, 0, none⟩ a).setCell ⟨sk, 1, none⟩ b).setCell ⟨sk, 2, none⟩ c).setCell ⟨sk, 3, none⟩ d)) := fun a b c d => (((B3.out.setCell HSK.out _).setCell HSK.out _).setCell HSK.out _).setCell HSK.out _
        have y0 := K3.out.cell 0 rfl
        have y1 := K3.out.cell 1 rfl
        have y2 := K3.out.cell 2 rfl
        have y3 := K3.out.cell 3 rfl
        have z0 := K3.out.free 0
        have z1 := K3.out.free 1
        have z2 := K3.out.free 2
        have z3 := K3.out.free 3
        go_wp2_with fail
        refine bodyPost_ret (RET.out _ _ _ _ _ rfl rfl KZ.out rfl) rfl ?_
        exact so_err E1.out (by decide) (BZ.out _ _ _ _)
      have E0 := hide (EO.out HC.out hF)
      have F0 : Hid (∀ s, Feas nv m l (acB nv m l s)) := fun s => acB_feas hF s
      have X3 : Hid (IRow w3 b nv (lvF nv m l (acB nv m l 0))) := hX
      have H5 : Hid (BRow w3 hb m (acB nv m l 0)) := H4.out
      have NB3 : Hid (hb ≠ b ∧ sk ≠ b) := ⟨by have := HLT.out; omega, by have := KB.out.lt; omega⟩
      clear h B KB H3 H4 L1 hF hX hb2 EC EO HLT
      go_wp2_with fail
      go_loopg [8, 10] 4 (fun g1 vx vs wr => ∃ (s b : Nat), vx = .slice (some ⟨b, 0, none⟩) nv nv ∧ vs = .int .i64 ((s : Int) + 1) ∧ s ≤ 3 ∧ 3 - s < g1 ∧ Hid (Below w.heap.size w wr) ∧ Hid (Blk wr sk 26 [.int .i64 0, .slice none 0 0, .slice none 0 0, .slice none 0 0]) ∧ Hid (BRow wr hb m (acB nv m l s)) ∧ Hid (IRow wr b nv (lvF nv m l (acB nv m l s))) ∧ Hid (hb ≠ b ∧ sk ≠ b))
      case atStart => exact ⟨0, b, rfl, by go_num, by omega, by omega, B3, K3, H5, X3, NB3⟩
      case round =>
        clear B3 K3 H5 X3 NB3
        obtain ⟨wu, rfl⟩ : ∃ wu : World, wu = wr := ⟨_, rfl⟩
        obtain ⟨s, b, rfl, rfl, hs, hg2, B, KB, HR, X, NX⟩ := hrel
        by_cases hs3 : s < 3
        case neg =>
          obtain rfl : s = 3 := by omega
          obtain ⟨ia, a1, a2, a3, a4⟩ := info_partsS info_cn
          have SP : SRow wu p m 5 (cnC l) := HP.out.below B.out
          have O1 : ∀ i r, (cnC l i r).oneCell' = true := fun i r => cn_one l i r
          go_wp2_with (at_builtin; refine wpList_copy_rows rfl _ 22 rfl 40 ia _ 5 40 Try.underlying22 a1 a2 a3 a4 rfl (by decide) p m c (cnC l) rfl SP O1 ?c3 ?c4 ?_)
          case c3 => unfold maxLen; omega
          case c4 => omega
          intro qS cS wA hcS hSR hqS hBA
          have BA : Hid (Below w.heap.size w wA) := B.out.trans (hBA.mono B.out.size)
          have KA : Hid (Blk wA sk 26 [.int .i64 0, .slice none 0 0, .slice none 0 0, .slice none 0 0]) := (hBA.block sk KB.out.lt).trans KB.out
          have HA : Hid (BRow wA hb m (acB nv m l 3)) := HR.out.below hBA HR.out.lt
          have XA : Hid (IRow wA b nv (lvF nv m l (acB nv m l 3))) := X.out.below hBA X.out.lt
          have SA : Hid (SRow wA qS m 5 (cnC l)) := hSR
          have QN : Hid (∀ ad, qS = some ad → ad.block ≠ sk) := fun ad e => by have a := hqS ad e; have c := KB.out.lt; omega
          clear hSR hqS hBA B KB HR X SP O1 a1 a2 a3 a4
          have KZ := hide (setZ KA.out rfl (.int .i64 (nv : Int)) (.slice qS m cS) (.slice (some ⟨hb, 0, none⟩) m m) (.slice (some ⟨b, 0, none⟩) nv nv))
          have y0 := KA.out.cell 0 rfl
          have y1 := KA.out.cell 1 rfl
          have y2 := KA.out.cell 2 rfl
          have y3 := KA.out.cell 3 rfl
          have z0 := KA.out.free 0
          have z1 := KA.out.free 1
          have z2 := KA.out.free 2
          have z3 := KA.out.free 3
          go_wp2_with fail
          refine bodyPost_ret (RET.out _ _ _ _ _ rfl rfl KZ.out rfl) rfl ?_
          refine ⟨fun _ => ⟨qS, cS, some ⟨hb, 0, none⟩, m, some ⟨b, 0, none⟩, nv, rfl, hcS, ?_, ?_, ?_⟩, fun q => absurd E0.out q, ?_⟩
          · exact (((SA.out.other QN.out _).other QN.out _).other QN.out _).other QN.out _
          · exact ((((HA.out.far (p := ⟨sk, 0, none⟩) (Ne.symm NE.out.2) _).far (p := ⟨sk, 1, none⟩) (Ne.symm NE.out.2) _).far (p := ⟨sk, 2, none⟩) (Ne.symm NE.out.2) _).far (p := ⟨sk, 3, none⟩) (Ne.symm NE.out.2) _).breads
          · exact ((((XA.out.far (p := ⟨sk, 0, none⟩) (Ne.symm NX.out.2) _).far (p := ⟨sk, 1, none⟩) (Ne.symm NX.out.2) _).far (p := ⟨sk, 2, none⟩) (Ne.symm NX.out.2) _).far (p := ⟨sk, 3, none⟩) (Ne.symm NX.out.2) _).reads
          · exact (((BA.out.setCell (p := ⟨sk, 0, none⟩) HSK.out _).setCell (p := ⟨sk, 1, none⟩) HSK.out _).setCell (p := ⟨sk, 2, none⟩) HSK.out _).setCell (p := ⟨sk, 3, none⟩) HSK.out _
        have hsz : (s : Int) + 1 ≤ 3 := by omega
        have X0 : Hid (IRow wu b nv (lvF nv m l (acS nv m l ((s : Int) + 1) (acB nv m l s) 0))) := X.out
        have H0 : Hid (BRow wu hb m (acS nv m l ((s : Int) + 1) (acB nv m l s) 0)) := HR.out
        have BF : Hid (∀ j, (l j).st = (s : Int) + 1 → acB nv m l s j = false) := fun j h => by
          show _ = _
          cases q : acB nv m l s j with
          | false => rfl
          | true => have := acB_st q; omega
        have FB : Hid (∀ k, Feas nv m l (acS nv m l ((s : Int) + 1) (acB nv m l s) k)) := fun k => acS_feas (F0.out s) k
        clear X HR
        go_wp2_with fail
        go_loopg [8, 11] (m + 1) (fun g3 vx vk wr => ∃ (k b : Nat), vx = .slice (some ⟨b, 0, none⟩) nv nv ∧ vk = .int .i64 (k : Int) ∧ k ≤ m ∧ m - k < g3 ∧ Hid (Below w.heap.size w wr) ∧ Hid (Blk wr sk 26 [.int .i64 0, .slice none 0 0, .slice none 0 0, .slice none 0 0]) ∧ Hid (BRow wr hb m (acS nv m l ((s : Int) + 1) (acB nv m l s) k)) ∧ Hid (IRow wr b nv (lvF nv m l (acS nv m l ((s : Int) + 1) (acB nv m l s) k))) ∧ Hid (hb ≠ b ∧ sk ≠ b))
        case atStart => exact ⟨0, b, rfl, by go_num, by omega, by omega, B, KB, H0, X0, NX⟩
        case round =>
          clear B KB H0 X0 NX
          obtain ⟨wi, rfl⟩ : ∃ wi : World, wi = wr := ⟨_, rfl⟩
          obtain ⟨k, b, rfl, rfl, hk, hg3, B, KB, HR, X, NX⟩ := hrel
          by_cases hlk : k < m
          case neg =>
            have hlkz : ¬ (k : Int) < (m : Int) := by omega
            obtain rfl : k = m := by omega
            have X1 : Hid (IRow wi b nv (lvF nv k l (acB nv k l (s + 1)))) := X.out
            have H1 : Hid (BRow wi hb k (acB nv k l (s + 1))) := HR.out
            clear X HR BF FB
            go_wp2_with fail
            go_roundg (3 - s)
            case measure => omega
            case rel => exact ⟨s + 1, b, rfl, by go_num, by omega, by omega, B, KB, H1, X1, NX⟩
          have hlkz : (k : Int) < (m : Int) := by omega
          have hk0 : (0 : Int) ≤ (k : Int) := by omega
          obtain ⟨pb, poff, rfl, hpb, hpc⟩ := (HP.out.below B.out) (by omega)
          have c4 : wi.cell? ⟨pb, poff + k * 5 + 4, none⟩ = some (.int .i64 (l k).st) := hpc k hlk 4 (by decide)
          have LS : Hid (∀ W', Below w.heap.size w W' → ∀ ac, BRow W' hb m ac → Calls Try.prog 29 #[.int .i64 (nv : Int), .slice (some ⟨pb, poff, none⟩) m c, .slice (some ⟨hb, 0, none⟩) m m] W' fun e w' => ((Feas nv m l ac ∧ ∃ b, e = .returned (.tuple #[.slice (some ⟨b, 0, none⟩) nv nv, .bool true]) ∧ W'.heap.size ≤ b ∧ IRow w' b nv (lvF nv m l ac)) ∨ (¬ Feas nv m l ac ∧ e = .returned (.tuple #[.slice none 0 0, .bool false]))) ∧ Below W'.heap.size W' w') := fun W' h ac hr => rlst_any nv (some ⟨pb, poff, none⟩) (some ⟨hb, 0, none⟩) m c m l ac W' (HP.out.below h) hr.breads hn (by omega) HC.out
          clear hpc hpb
          have OFF : Hid (¬ (l k).st = (s : Int) + 1 → acS nv m l ((s : Int) + 1) (acB nv m l s) (k + 1) = acS nv m l ((s : Int) + 1) (acB nv m l s) k) := fun h => acS_off h
          have YES : Hid ((l k).st = (s : Int) + 1 → Feas nv m l (updB (acS nv m l ((s : Int) + 1) (acB nv m l s) k) k true) → acS nv m l ((s : Int) + 1) (acB nv m l s) (k + 1) = updB (acS nv m l ((s : Int) + 1) (acB nv m l s) k) k true) := fun h1 h2 => acS_yes h1 h2
          have NO : Hid ((l k).st = (s : Int) + 1 → ¬ Feas nv m l (updB (acS nv m l ((s : Int) + 1) (acB nv m l s) k) k true) → acS nv m l ((s : Int) + 1) (acB nv m l s) (k + 1) = acS nv m l ((s : Int) + 1) (acB nv m l s) k) := fun h1 h2 => acS_no h1 h2
          have WAS : Hid ((l k).st = (s : Int) + 1 → acS nv m l ((s : Int) + 1) (acB nv m l s) k k = false) := fun h => acS_before (BF.out k h) (Nat.le_refl _)
          clear BF FB
          obtain ⟨ak, hak⟩ : ∃ ak, ak = acS nv m l ((s : Int) + 1) (acB nv m l s) k := ⟨_, rfl⟩
          obtain ⟨ak1, hak1⟩ : ∃ ak1, ak1 = acS nv m l ((s : Int) + 1) (acB nv m l s) (k + 1) := ⟨_, rfl⟩
          rw [← hak] at OFF YES NO WAS HR X
          rw [← hak1] at OFF YES NO
          have BACK : Hid (acS nv m l ((s : Int) + 1) (acB nv m l s) (k + 1) = ak1) := hak1.symm
          clear hak hak1
          generalize (l k).st = ls at *
          by_cases hst : ls = (s : Int) + 1
          case neg =>
            have e1 : (ls != (s : Int) + 1) = true := by simpa using hst
            have EQ := OFF.out hst
            have H1 : Hid (BRow wi hb m (acS nv m l ((s : Int) + 1) (acB nv m l s) (k + 1))) := by rw [BACK.out, EQ]; exact HR.out
            have X1 : Hid (IRow wi b nv (lvF nv m l (acS nv m l ((s : Int) + 1) (acB nv m l s) (k + 1)))) := by rw [BACK.out, EQ]; exact X.out
            clear OFF YES NO WAS BACK HR X LS EQ hst
            go_wp2_with fail
            go_roundg (m - k)
            case measure => omega
            case rel => exact ⟨k + 1, b, rfl, by go_num, by omega, by omega, B, KB, H1, X1, NX⟩
          have e1 : (ls != (s : Int) + 1) = false := by simpa using hst
          have YES := hide (YES.out hst)
          have NO := hide (NO.out hst)
          have WAS := hide (WAS.out hst)
          have ch := HR.out.cell hlk
          have fz := HR.out.frozen k
          have NB : Hid (Below w.heap.size w (wi.setCell ⟨hb, k, none⟩ (.bool true))) := B.out.setCell (Nat.le_trans HSK.out NE.out.1) _
          have NK : Hid (Blk (wi.setCell ⟨hb, k, none⟩ (.bool true)) sk 26 [.int .i64 0, .slice none 0 0, .slice none 0 0, .slice none 0 0]) := KB.out.other NE.out.2 _
          have NH : Hid (BRow (wi.setCell ⟨hb, k, none⟩ (.bool true)) hb m (updB ak k true)) := (HR.out.set_ k true).congr fun j _ => rfl
          have NXR : Hid (IRow (wi.setCell ⟨hb, k, none⟩ (.bool true)) b nv (lvF nv m l ak)) := X.out.far (Ne.symm NX.out.1) _
          clear OFF hst B KB HR X
          go_wp2_with fail
          clear c4 ch fz
          generalize wi.setCell ⟨hb, k, none⟩ (.bool true) = w5 at *
          have LS5 := hide (LS.out w5 NB.out _ NH.out)
          clear LS
          go_wp2_with fail
          refine LS5.out.mono ?_
          rintro e w6 ⟨hor, h⟩
          have B6 : Hid (Below w.heap.size w w6) := NB.out.trans (h.mono NB.out.size)
          have K6 : Hid (Blk w6 sk 26 [.int .i64 0, .slice none 0 0, .slice none 0 0, .slice none 0 0]) := (h.block sk NK.out.lt).trans NK.out
          have H6 : Hid (BRow w6 hb m (updB ak k true)) := NH.out.below h NH.out.lt
          have X6 : Hid (IRow w6 b nv (lvF nv m l ak)) := NXR.out.below h NXR.out.lt
          have HLT : Hid (hb < w5.heap.size ∧ sk < w5.heap.size) := ⟨NH.out.lt, NK.out.lt⟩
          rcases hor with ⟨hF, b6, rfl, hb6, hX⟩ | ⟨hF, rfl⟩
          · have EQ := YES.out hF
            have H1 : Hid (BRow w6 hb m (acS nv m l ((s : Int) + 1) (acB nv m l s) (k + 1))) := by rw [BACK.out, EQ]; exact H6.out
            have X1 : Hid (IRow w6 b6 nv (lvF nv m l (acS nv m l ((s : Int) + 1) (acB nv m l s) (k + 1)))) := by rw [BACK.out, EQ]; exact hX
            have NX1 : Hid (hb ≠ b6 ∧ sk ≠ b6) := by
              have := HLT.out
              show _ ∧ _
              omega
            clear YES NO WAS BACK H6 X6 LS5 EQ hF hX hb6 h NB NK NH NXR HLT NX
            go_wp2_with fail
            go_roundg (m - k)
            case measure => omega
            case rel => exact ⟨k + 1, b6, rfl, by go_num, by omega, by omega, B6, K6, H1, X1, NX1⟩
          · have EQ := NO.out hF
            have ch := H6.out.cell hlk
            have fz := H6.out.frozen k
            have B7 : Hid (Below w.heap.size w (w6.setCell ⟨hb, k, none⟩ (.bool false))) := B6.out.setCell (Nat.le_trans HSK.out NE.out.1) _
            have K7 : Hid (Blk (w6.setCell ⟨hb, k, none⟩ (.bool false)) sk 26 [.int .i64 0, .slice none 0 0, .slice none 0 0, .slice none 0 0]) := K6.out.other NE.out.2 _
            have H7 : Hid (BRow (w6.setCell ⟨hb, k, none⟩ (.bool false)) hb m (acS nv m l ((s : Int) + 1) (acB nv m l s) (k + 1))) := (H6.out.set_ k false).congr fun j _ => by
              rw [BACK.out, EQ]
              unfold updB
              by_cases q : j = k
              · rw [if_pos q, q, WAS.out]
              · rw [if_neg q, if_neg q]
            have X7 : Hid (IRow (w6.setCell ⟨hb, k, none⟩ (.bool false)) b nv (lvF nv m l (acS nv m l ((s : Int) + 1) (acB nv m l s) (k + 1)))) := by rw [BACK.out, EQ]; exact X6.out.far (Ne.symm NX.out.1) _
            clear YES NO WAS BACK H6 X6 LS5 EQ hF h NB NK NH NXR HLT B6 K6
            go_wp2_with fail
            go_roundg (m - k)
            case measure => omega
            case rel => exact ⟨k + 1, b, rfl, by go_num, by omega, by omega, B7, K7, H7, X7, NX⟩
end Go.Proofs.Ytdoncogkepopiaa
