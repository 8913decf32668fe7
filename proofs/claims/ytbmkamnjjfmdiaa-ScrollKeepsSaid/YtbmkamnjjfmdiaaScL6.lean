/- What the laws ScrollVisible and ScrollRows run, where Clamp, Reveal, Visible and Keep answer as the chapter asks; no other condition. -/
import Derived.Test.YtbmkamnjjfmdiaaScL5
namespace Go.Proofs.Ytbmkamnjjfmdiaa
open Go.RowKit Go.Sort
set_option linter.unusedVariables false
set_option linter.unusedSimpArgs false

theorem top_mono {l : Nat → Stp} {n : Nat} (h : ∀ i, i < n → 0 ≤ (l i).h) : ∀ {d i : Nat}, i + d ≤ n → topF l i ≤ topF l (i + d)
  | 0, i, _ => Int.le_refl _
  | d + 1, i, hd => by
    have a := top_mono h (d := d) (i := i) (by omega)
    have b := h (i + d) (by omega)
    have c := top_succ l (i + d)
    show topF l i ≤ topF l (i + d + 1)
    omega
theorem top_mono' {l : Nat → Stp} {n i j : Nat} (h : ∀ i, i < n → 0 ≤ (l i).h) (hij : i ≤ j) (hj : j ≤ n) : topF l i ≤ topF l j := by
  obtain ⟨d, rfl⟩ : ∃ d, j = i + d := ⟨j - i, by omega⟩
  exact top_mono h hj
theorem sh_h (l : Nat → Stp) (i : Nat) : 0 ≤ (shL l i).h ∧ (shL l i).h < 64 := by
  show 0 ≤ (l i).h % 64 ∧ (l i).h % 64 < 64
  omega
theorem sh_top (l : Nat → Stp) : ∀ i : Nat, 0 ≤ topF (shL l) i ∧ topF (shL l) i ≤ 64 * (i : Int)
  | 0 => ⟨Int.le_refl _, by show (0 : Int) ≤ _; omega⟩
  | i + 1 => by
    have a := sh_top l i
    have b := sh_h l i
    rw [top_succ]
    omega
theorem sh_rows (l : Nat → Stp) {m : Nat} (hm : m ≤ 60) : rowsB m (shL l) = true := rows_iff.2 ⟨by omega, fun i _ => by have := sh_h l i; omega⟩
theorem sv_ok (l : Nat → Stp) {m : Nat} (hm : m ≤ 60) {o h : Int} (h1 : -3000 < o) (h2 : o < 3000) (h3 : 0 ≤ h) (h4 : h < 1000) : vi1 m (shL l) o h = (fiF m (shL l) o : Int) ∧ vi2 m (shL l) o h = (enF m (shL l) o h : Int) := by
  have e : viB m (shL l) o h = true := by
    unfold viB
    rw [inR_iff.2 ⟨by omega, by omega⟩, szR_iff.2 ⟨by omega, by omega⟩, sh_rows l hm]; rfl
  unfold vi1 vi2
  rw [e, if_pos rfl, if_pos rfl]
  exact ⟨rfl, rfl⟩
theorem sv_bd (m : Nat) (r : Nat → Stp) (o h : Int) : fiF m r o ≤ enF m r o h ∧ enF m r o h ≤ m := by
  have a := fsF_spec (P := fun i => decide (o < topF r (i + 1))) (d := m) (a := 0)
  have b := fsF_spec (P := fun i => decide (o + h ≤ topF r i)) (d := m - fiF m r o) (a := fiF m r o)
  have c : fiF m r o ≤ 0 + m := a.2.1
  have e := b.2.1
  exact ⟨b.1, by unfold enF; omega⟩
/-- Where a row stands, and whether it meets the viewport. -/
theorem sv_cases {m : Nat} {r : Nat → Stp} {o h : Int} (hr : ∀ i, i < m → 0 ≤ (r i).h) (hh : 0 < h) {i : Nat} (hi : i < m) :
    ¬ 0 < (r i).h ∨ (0 < (r i).h ∧ i < fiF m r o ∧ topF r i < o + h ∧ ¬ o < topF r i + (r i).h) ∨
    (0 < (r i).h ∧ fiF m r o ≤ i ∧ i < enF m r o h ∧ topF r i < o + h ∧ o < topF r i + (r i).h) ∨ (0 < (r i).h ∧ fiF m r o ≤ i ∧ enF m r o h ≤ i ∧ ¬ topF r i < o + h) := by
  obtain ⟨a1, a2, a3, a4⟩ := fsF_spec (P := fun i => decide (o < topF r (i + 1))) (d := m) (a := 0)
  obtain ⟨b1, b2, b3, b4⟩ := fsF_spec (P := fun i => decide (o + h ≤ topF r i)) (d := m - fiF m r o) (a := fiF m r o)
  have ts := top_succ r i
  by_cases q : 0 < (r i).h
  · right
    by_cases q1 : i < fiF m r o
    · left
      have := of_decide_eq_false (a3 i (by omega) q1)
      exact ⟨q, q1, by omega, by omega⟩
    · right
      have q1' : fiF m r o ≤ i := by omega
      have z : o < topF r (fiF m r o + 1) := by
        rcases a4 with a4 | a4
        · exact absurd (show fiF m r o = 0 + m from a4) (by omega)
        · exact of_decide_eq_true a4
      have y := top_mono' (n := m) hr (show fiF m r o + 1 ≤ i + 1 by omega) (by omega)
      by_cases q2 : i < enF m r o h
      · left
        have := of_decide_eq_false (b3 i q1' q2)
        exact ⟨q, q1', q2, by omega, by omega⟩
      · right
        have q2' : enF m r o h ≤ i := by omega
        have z2 : o + h ≤ topF r (enF m r o h) := by
          rcases b4 with b4 | b4
          · exact absurd (show enF m r o h = fiF m r o + (m - fiF m r o) from b4) (by omega)
          · exact of_decide_eq_true b4
        have y2 := top_mono' (n := m) hr q2' (by omega)
        exact ⟨q, q1', q2', by omega⟩
  · exact Or.inl q
theorem ex_min (n : Nat) : ∃ m, m ≤ n ∧ m ≤ 60 ∧ (m = n ∨ (m = 60 ∧ m < n)) := by
  by_cases h : n ≤ 60
  · exact ⟨n, Nat.le_refl _, h, Or.inl rfl⟩
  · exact ⟨60, by omega, Nat.le_refl _, Or.inr ⟨rfl, by omega⟩⟩
set_option maxHeartbeats 8000000 in
set_option maxRecDepth 100000 in
theorem svis_core (hC : KCl 14) (hR : KRv 16) (hV : KVi 10)
    (p : Option Addr) (n c : Nat) (l : Nat → Stp) (offset height : Int) (w : World) (hp : SRow w p n 2 (stC l)) :
    Calls Try.prog 7 #[.slice p n c, .int .i64 offset, .int .i64 height] w fun e w' => e = .returned (.bool true) ∧ Below w.heap.size w w' := by
  obtain ⟨m, h1, h2, h3⟩ := ex_min n
  have SH := hide (short_any p n c l w hp m h1 h2 h3)
  have t := td_lt offset 3000 (by decide)
  have u : 0 ≤ height % 256 ∧ height % 256 < 256 := by omega
  have KV := hide (fun q cv w' hq hcv => hV q m cv (shL l) (offset.tmod 3000) (1 + height % 256) w' hq hcv (by omega))
  have VS := sv_ok l h2 (o := offset.tmod 3000) (h := 1 + height % 256) t.2 t.1 (by omega) (by omega)
  have VB := sv_bd m (shL l) (offset.tmod 3000) (1 + height % 256)
  have VC := hide (fun (i : Nat) (hi : i < m) => sv_cases (r := shL l) (o := offset.tmod 3000) (h := 1 + height % 256) (fun i _ => (sh_h l i).1) (by omega) hi)
  have TP := hide (sh_top l)
  have HH := hide (sh_h l)
  have A := hide (fun W => sawake_any hC hR hV W)
  have wh : IntKind.i64.wrap (1 + height % 256) = 1 + height % 256 := wr (by omega) (by omega)
  have wo : IntKind.i64.wrap (offset.tmod 3000 + (1 + height % 256)) = offset.tmod 3000 + (1 + height % 256) := wr (by omega) (by omega)
  rw [VS.1, VS.2] at KV
  obtain ⟨VB1, VB2⟩ := VB
  generalize fiF m (shL l) (offset.tmod 3000) = fi at *
  generalize enF m (shL l) (offset.tmod 3000) (1 + height % 256) = en at *
  obtain ⟨fz, hfz⟩ : ∃ fz : Int, (fi : Int) = fz := ⟨_, rfl⟩
  obtain ⟨ez, hez⟩ : ∃ ez : Int, (en : Int) = ez := ⟨_, rfl⟩
  rw [hfz, hez] at KV
  clear VS hC hR hV hp h1 h3
  go_enter Try.func7, Try.ntmps7
  go_wp2_with fail
  refine SH.out.mono ?_
  rintro e w1 ⟨q, cv, rfl, hq, hcv, hB⟩
  have B1 := hide hB
  have S1 := hide hq
  replace KV := hide (KV.out q cv w1 hq hcv)
  clear SH hB hq
  go_wp2_with fail
  generalize hox : offset.tmod 3000 = ox at *
  generalize hhx : 1 + height % 256 = hx at *
  refine KV.out.mono ?_
  rintro e w2 ⟨rfl, hB⟩
  have B2 := hide (B1.out.trans (hB.mono B1.out.size))
  have S2 := hide (S1.out.below hB)
  clear KV hB B1 S1
  have z1 : ¬ fz < 0 := by omega
  have z2 : ¬ ez < fz := by omega
  have z3 : ¬ (m : Int) < ez := by omega
  replace hfz := hide hfz
  replace hez := hide hez
  go_wp2_with fail
  clear z1 z2 z3
  go_loopg [10, 11] (m + 1) (fun g1 vt vi wr => ∃ i : Nat, vt = .int .i64 (topF (shL l) i) ∧ vi = .int .i64 (i : Int) ∧ i ≤ m ∧ m - i < g1 ∧ Hid (Below w.heap.size w wr) ∧ Hid (SRow wr q m 2 (stC (shL l))))
  case atStart => exact ⟨0, rfl, by go_num, by omega, by omega, B2, S2⟩
  case round =>
    clear B2 S2
    obtain ⟨wp, rfl⟩ : ∃ wp : World, wp = wr := ⟨_, rfl⟩
    obtain ⟨i, rfl, rfl, hi, hg, B, S⟩ := hrel
    by_cases hlt : i < m
    · have hltz : (i : Int) < (m : Int) := by omega
      have hi0 : (0 : Int) ≤ (i : Int) := by omega
      obtain ⟨b1, o1, rfl, hb1, hc1⟩ := S.out (by omega)
      have y1 : wp.cell? ⟨b1, o1 + i * 2 + 1, none⟩ = some (.int .i64 (shL l i).h) := hc1 i hlt 1 (by decide)
      have tp := TP.out i
      have th := HH.out i
      have ts := top_succ (shL l) i
      have C := VC.out i hlt
      have wt : IntKind.i64.wrap (topF (shL l) i + (shL l i).h) = topF (shL l) i + (shL l i).h := wr (by omega) (by omega)
      replace ts := hide ts
      clear hb1 hc1 A VC TP HH th tp
      generalize (shL l i).h = ht at *
      generalize topF (shL l) i = tp at *
      rcases C with a1 | ⟨a1, a2, a3, a4⟩ | ⟨a1, a2, a3, a4, a5⟩ | ⟨a1, a2, a3, a4⟩
      · go_wp2_with fail
        go_roundg (m - i)
        case measure => exact (by omega)
        case rel => exact ⟨i + 1, by rw [ts.out], by go_num, by omega, by omega, B, S⟩
      · have a2z : (i : Int) < fz := by have := hfz.out; omega
        clear a2
        go_wp2_with fail
        go_roundg (m - i)
        case measure => exact (by omega)
        case rel => exact ⟨i + 1, by rw [ts.out], by go_num, by omega, by omega, B, S⟩
      · have a2z : ¬ (i : Int) < fz := by have := hfz.out; omega
        have a3z : (i : Int) < ez := by have := hez.out; omega
        clear a2 a3
        go_wp2_with fail
        go_roundg (m - i)
        case measure => exact (by omega)
        case rel => exact ⟨i + 1, by rw [ts.out], by go_num, by omega, by omega, B, S⟩
      · have a2z : ¬ (i : Int) < fz := by have := hfz.out; omega
        have a3z : ¬ (i : Int) < ez := by have := hez.out; omega
        clear a2 a3
        go_wp2_with fail
        go_roundg (m - i)
        case measure => exact (by omega)
        case rel => exact ⟨i + 1, by rw [ts.out], by go_num, by omega, by omega, B, S⟩
    · have hltz : ¬ (i : Int) < (m : Int) := by omega
      clear S
      have A := hide (A.out wp)
      go_wp2_with fail
      refine A.out.mono ?_
      rintro e w4 ⟨rfl, h⟩
      have B5 := hide (B.out.trans (h.mono B.out.size))
      clear h B A
      go_wp2_with fail
      go_ret
      exact ⟨rfl, B5.out⟩
theorem sh_sz {l : Nat → Stp} {i : Nat} : (shL l i).k.size ≤ 9223372036854775807 := by
  show (if 1 < (l i).k.size then (l i).k.extract 0 1 else (l i).k).size ≤ _
  split
  · rw [ByteArray.size_extract]; omega
  · omega
set_option maxHeartbeats 8000000 in
theorem srow_core (hC : KCl 14) (hR : KRv 16) (hV : KVi 10) (hK : KKe 18)
    (p q : Option Addr) (n m c d : Nat) (f g : Nat → Stp) (offset height : Int) (w : World) (hp : SRow w p n 2 (stC f)) (hq : SRow w q m 2 (stC g)) :
    Calls Try.prog 4 #[.slice p n c, .slice q m d, .int .i64 offset, .int .i64 height] w fun e w' => e = .returned (.bool true) ∧ Below w.heap.size w w' := by
  obtain ⟨n', h1, h2, h3⟩ := ex_min n
  obtain ⟨m', k1, k2, k3⟩ := ex_min m
  have SH := hide (short_any p n c f w hp n' h1 h2 h3)
  have SG := hide (fun w' (hB : Below w.heap.size w w') => short_any q m d g w' (hq.below hB) m' k1 k2 k3)
  have KV := hide (fun q cv w' hq hcv => hV q n' cv (shL f) (offset.tmod 2000) (height % 256) w' hq hcv (by omega))
  have RV := hide (fun q cv w' hq => rvi_any q n' cv (shL f) (offset.tmod 2000) (height % 256) w' hq (by omega))
  have KK := hide (fun p q cv dv w' hp hq hcv hdv => hK p q n' m' cv dv (shL f) (shL g) (offset.tmod 2000) w' hp hq hcv hdv (by omega) (by omega) (fun i _ => sh_sz) (fun i _ => sh_sz))
  have RK := hide (fun p q cv dv w' hp hq => rke_any p q n' m' cv dv (shL f) (shL g) (offset.tmod 2000) w' hp hq (by omega) (by omega))
  have A := hide (fun W => sawake_any hC hR hV W)
  unfold ViP at RV
  unfold KeP at RK
  generalize vi1 n' (shL f) (offset.tmod 2000) (height % 256) = v1 at *
  generalize vi2 n' (shL f) (offset.tmod 2000) (height % 256) = v2 at *
  generalize keF n' m' (shL f) (shL g) (offset.tmod 2000) = ke at *
  clear hC hR hV hK hp hq h1 h2 h3 k1 k2 k3
  go_enter Try.func4, Try.ntmps4
  go_wp2_with fail
  refine SH.out.mono ?_
  rintro e w1 ⟨qa, ca, rfl, ha, hca, hB⟩
  have B1 := hide hB
  have SA := hide ha
  replace SG := hide (SG.out w1 hB)
  clear SH hB ha
  go_wp2_with fail
  refine SG.out.mono ?_
  rintro e w2 ⟨qb, cb, rfl, hb, hcb, hB⟩
  have B2 := hide (B1.out.trans (hB.mono B1.out.size))
  replace SA := hide (SA.out.below hB)
  have SB := hide hb
  replace KV := hide (KV.out qa ca w2 SA.out hca)
  clear SG hB hb B1
  go_wp2_with fail
  generalize offset.tmod 2000 = ox at *
  generalize height % 256 = hx at *
  refine KV.out.mono ?_
  rintro e w3 ⟨rfl, hB⟩
  have B3 := hide (B2.out.trans (hB.mono B2.out.size))
  replace SA := hide (SA.out.below hB)
  replace SB := hide (SB.out.below hB)
  replace RV := hide (RV.out qa ca w3 SA.out)
  clear KV hB B2
  go_wp2_with fail
  refine RV.out.mono ?_
  rintro e w4 ⟨rfl, hB⟩
  have B4 := hide (B3.out.trans (hB.mono B3.out.size))
  replace SA := hide (SA.out.below hB)
  replace SB := hide (SB.out.below hB)
  replace KK := hide (KK.out qa qb ca cb w4 SA.out SB.out hca hcb)
  clear RV hB B3
  go_wp2_with fail
  refine KK.out.mono ?_
  rintro e w5 ⟨rfl, hB⟩
  have B5 := hide (B4.out.trans (hB.mono B4.out.size))
  replace SA := hide (SA.out.below hB)
  replace SB := hide (SB.out.below hB)
  replace RK := hide (RK.out qa qb ca cb w5 SA.out SB.out)
  clear KK hB B4 SA SB
  go_wp2_with fail
  refine RK.out.mono ?_
  rintro e w6 ⟨rfl, hB⟩
  have B6 := hide (B5.out.trans (hB.mono B5.out.size))
  replace A := hide (A.out w6)
  clear RK hB B5
  go_wp2_with fail
  refine A.out.mono ?_
  rintro e w7 ⟨rfl, hB⟩
  have B7 := hide (B6.out.trans (hB.mono B6.out.size))
  clear A hB B6
  go_wp2_with fail
  go_ret
  exact ⟨rfl, B7.out⟩
end Go.Proofs.Ytbmkamnjjfmdiaa
