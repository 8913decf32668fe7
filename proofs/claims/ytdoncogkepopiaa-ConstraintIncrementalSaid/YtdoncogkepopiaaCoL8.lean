/- What the law ConstraintIncremental runs; no condition. -/
import Derived.Test.YtdoncogkepopiaaCpL
import Derived.Test.YtdoncogkepopiaaCoL2
namespace Go.Proofs.Ytdoncogkepopiaa
open Go.RowKit Go.Sort Go.Shelf
set_option linter.unusedVariables false
set_option linter.unusedSimpArgs false

theorem zero_err {n : Nat} {l : Nat → Cn} (h : n ≤ 64) : erS (n : Int) 0 l = 0 :=
  erS_ok h (by omega) (fun k hk => absurd hk (Nat.not_lt_zero _)) ⟨fun _ => 0, fun i _ => ⟨Int.le_refl _, by show (0 : Int) ≤ 1048576; omega⟩, fun k hk => absurd hk (Nat.not_lt_zero _)⟩
section
variable {w wo W W' : World} {sb s5 sk m0 c' : Nat} {p0 : Option Addr} {f : Nat → Int} {sy : List Value}
theorem sr_lt (H : SR (base0C w) W sb p0 m0 c' f) : sb < W.heap.size := by obtain ⟨t, _, k⟩ := H.src; exact k.lt
theorem sr_below (H : SR (base0C w) W sb p0 m0 c' f) (hB : Below W.heap.size W W') : SR (base0C w) W' sb p0 m0 c' f :=
  H.same (base0C_grew ((base0C_below H.g).trans (hB.mono (base0C_below H.g).size))) (hB.block sb (sr_lt H))
theorem sr_kept (H : SR (base0C w) W sb p0 m0 c' f) (hK : Kept sk W W') (hn : sk ≠ sb) (hs : w.heap.size ≤ sk) : SR (base0C w) W' sb p0 m0 c' f :=
  H.same (base0C_grew ((base0C_below H.g).trans (hK.below hs (base0C_below H.g).size))) (hK.block sb (sr_lt H) (Ne.symm hn))
/-- The reader, the law's system, all else that it keeps. -/
structure Cur (w wo W : World) (sb s5 : Nat) (p0 : Option Addr) (m0 c' : Nat) (f : Nat → Int) (sy : List Value) : Prop where
  sr : SR (base0C w) W sb p0 m0 c' f
  blk : Blk W s5 26 sy
  agr : Agr sb s5 wo W
theorem Cur.below (h : Cur w wo W sb s5 p0 m0 c' f sy) (hB : Below W.heap.size W W') : Cur w wo W' sb s5 p0 m0 c' f sy := ⟨sr_below h.sr hB, (hB.block s5 h.blk.lt).trans h.blk, h.agr.below hB⟩
theorem Cur.but (h : Cur w wo W sb s5 p0 m0 c' f sy) (hn : s5 ≠ sb) (q : But sb W W') (s : SR (base0C w) W' sb p0 m0 c' f) : Cur w wo W' sb s5 p0 m0 c' f sy := ⟨s, q.blk h.blk hn, h.agr.but q⟩
theorem Cur.kept (h : Cur w wo W sb s5 p0 m0 c' f sy) (hK : Kept sk W W') (h1 : sk ≠ sb) (h2 : sk ≠ s5) (h3 : w.heap.size ≤ sk) (h4 : wo.heap.size ≤ sk) : Cur w wo W' sb s5 p0 m0 c' f sy := ⟨sr_kept h.sr hK h1 h3, h.blk.kept hK (Ne.symm h2), h.agr.kept hK h4⟩
theorem kept_sets (x y c d : Value) : Kept sk W ((((W.setCell ⟨sk, 0, none⟩ x).setCell ⟨sk, 1, none⟩ y).setCell ⟨sk, 2, none⟩ c).setCell ⟨sk, 3, none⟩ d) := ((((Kept.refl sk W).set 0 x).set 1 y).set 2 c).set 3 d
end
structure IcS (w W : World) (sb s5 : Nat) (p0 : Option Addr) (m0 c' : Nat) (f : Nat → Int) (nv m : Nat) (l : Nat → Cn) (q1 q2 q3 pn : Option Addr) (c1 c2 c3 cn : Nat) : Prop where
  sr : SR (base0C w) W sb p0 m0 c' f
  blk : Blk W s5 26 (sysL nv q1 m c1 q2 m c2 q3 nv c3)
  stb : Stb sb s5 W (SysF nv m l q1 q2 q3 pn)
  ok : ∀ k, k < m → okC nv (l k)
  er : erS (nv : Int) m l = 0
  h1 : m ≤ c1
  hn : m ≤ cn
section
variable {w wo W : World} {sb s5 m0 c' nv m c1 c2 c3 cn : Nat} {p0 q1 q2 q3 pn : Option Addr} {f : Nat → Int} {l : Nat → Cn}
theorem IcS.cur (h : IcS w wo sb s5 p0 m0 c' f nv m l q1 q2 q3 pn c1 c2 c3 cn) : Cur w wo wo sb s5 p0 m0 c' f (sysL nv q1 m c1 q2 m c2 q3 nv c3) := ⟨h.sr, h.blk, Agr.refl _ _ _⟩
theorem IcS.back (h : IcS w wo sb s5 p0 m0 c' f nv m l q1 q2 q3 pn c1 c2 c3 cn) (k : Cur w wo W sb s5 p0 m0 c' f (sysL nv q1 m c1 q2 m c2 q3 nv c3)) : IcS w W sb s5 p0 m0 c' f nv m l q1 q2 q3 pn c1 c2 c3 cn := ⟨k.sr, k.blk, h.stb.mono k.agr, h.ok, h.er, h.h1, h.hn⟩
theorem wo_ok {nv m j : Nat} {l : Nat → Cn} (h : ∀ k, k < m → okC nv (l k)) (hj : j < m) : ∀ k, k < m - 1 → okC nv (woC l j k) := fun k hk => by
  unfold woC
  split
  · exact h _ (by omega)
  · exact h _ (by omega)
theorem upd_ok {nv m : Nat} {l : Nat → Cn} {x : Cn} (h : ∀ k, k < m → okC nv (l k)) (hx : okC nv x) : ∀ k, k < m + 1 → okC nv (upd l m x k) := fun k hk => by
  by_cases e : k = m
  · subst e; simpa [upd] using hx
  · simpa [upd, e] using h k (by omega)
end
theorem sof_ret {vars : Int} {m : Nat} {l : Nat → Cn} {w w' : World} {e : Ending} (h : SoF vars m l w e w') : ∃ v, e = .returned v := by
  by_cases h0 : erS vars m l = 0
  · obtain ⟨_, _, _, _, _, _, q, _⟩ := h.1 h0; exact ⟨_, q⟩
  · exact ⟨_, h.2.1 h0⟩
set_option maxRecDepth 100000 in
set_option maxHeartbeats 60000000 in
theorem cinc_core (p0 : Option Addr) (n0 c0 : Nat) (f : Nat → Int) (w : World) (hnc : n0 ≤ c0) (hr : Reads w p0 n0 f) (hf : ∀ k, -9223372036854775808 ≤ f k ∧ f k ≤ 9223372036854775807) :
    Calls Try.prog 8 #[.slice p0 n0 c0] w fun e w' => e = .returned (.bool true) ∧ Below w.heap.size w w' := by
  have A := hide (fun w' => cawake_any gSo w')
  have K0 := hide (New_any p0 n0 c0 w hnc (fun h => by obtain ⟨b, off, e, _⟩ := hr h; exact ⟨_, e⟩))
  obtain ⟨it, i1, i2, i3, i4⟩ := info_partsU info_cnB
  go_enter Try.func8, Try.ntmps8
  go_wp2_with fail
  refine K0.out.mono ?_
  rintro e wa ⟨sb, m0, c', rfl, G1, hsb, ⟨hm1, hm2⟩, B1⟩
  have S1 : Hid (SR (base0C w) wa sb p0 m0 c' f) := ⟨base0C_grew G1.1, hsb, fun h0 => by
    obtain ⟨b, off, e, hc⟩ := hr (by omega)
    exact ⟨b, off, e, fun k hk => hc k (by omega)⟩, hm2, hf, 0, Nat.zero_le _, B1⟩
  clear B1 K0 hr hnc G1
  have KV := hide (Range_neg (base0C w) wa sb m0 c' p0 f 1 5 S1.out (by decide) (by decide) (by decide))
  go_wp2_with fail
  refine KV.out.mono ?_
  rintro e wb ⟨vars, rfl, ⟨v1, v2⟩, -, SS⟩
  obtain ⟨nv, rfl⟩ : ∃ nv : Nat, vars = (nv : Int) := ⟨vars.toNat, by omega⟩
  have hnv1 : 1 ≤ nv := by omega
  have hnv2 : nv ≤ 5 := by omega
  have KN := hide (gNewF nv wb)
  have SB := hide SS
  clear SS KV S1 hm1 hm2 v1 v2 hf
  go_wp2_with fail
  refine KN.out.mono ?_
  rintro e wc h
  obtain ⟨q1, c1, q2, c2, q3, c3, rfl, -, s1, b1, x1, f1, f2, f3⟩ := h.1 (zero_err (by omega))
  rw [show (nv : Int).toNat = nv from Int.toNat_natCast nv] at *
  have SC := hide (sr_below SB.out h.2.2)
  have LE := hide ((Below.refl wc.heap.size wc).alloc (Nat.le_refl _) (.cells #[.int .i64 (nv : Int), .slice q1 0 c1, .slice q2 0 c2, .slice q3 nv c3] 26))
  have HNE : Hid (wc.heap.size ≠ sb) := by
    show _ ≠ _
    have := sr_lt SC.out
    omega
  have HS5 : Hid (w.heap.size ≤ wc.heap.size) := (base0C_below SC.out.g).size
  have IS0 : Hid (IcS w (wc.alloc (.cells #[.int .i64 (nv : Int), .slice q1 0 c1, .slice q2 0 c2, .slice q3 nv c3] 26)) sb wc.heap.size p0 m0 c' f nv 0 (fun _ => ⟨0, 0, 0, 0, 0⟩) q1 q2 q3 none c1 c2 c3 0) :=
    ⟨sr_below SC.out LE.out, sys_blk wc nv q1 0 c1 q2 0 c2 q3 nv c3, (sys_stb (B := wb.heap.size) (pn := none) ⟨s1, b1, x1, fun h => absurd h (Nat.lt_irrefl _)⟩ f1 f2 f3 (fun ad e => by cases e) (sr_lt SB.out) (Or.inr (Nat.le_refl _))).mono ⟨by simp, fun k hk _ _ => LE.out.block k hk⟩, fun k hk => absurd hk (Nat.not_lt_zero _), zero_err (by omega), Nat.zero_le _, Nat.le_refl _⟩
  clear h s1 b1 x1 f1 f2 f3 SC LE SB KN
  go_wp2_with fail
  generalize wc.alloc (.cells #[.int .i64 (nv : Int), .slice q1 0 c1, .slice q2 0 c2, .slice q3 nv c3] 26) = wd at *
  generalize wc.heap.size = s5 at *
  go_loopg [7, 8] 18 (fun g1 vw vi wr => ∃ (i m : Nat) (l : Nat → Cn) (q1 q2 q3 pn : Option Addr) (c1 c2 c3 cn : Nat), vw = .slice pn m cn ∧ vi = .int .i64 (i : Int) ∧ i ≤ 16 ∧ 16 - i < g1 ∧ m ≤ i ∧ Hid (IcS w wr sb s5 p0 m0 c' f nv m l q1 q2 q3 pn c1 c2 c3 cn))
  case atStart => exact ⟨0, 0, _, _, _, _, _, _, _, _, _, rfl, by go_num, by omega, by omega, by omega, IS0⟩
  case round =>
    clear IS0
    obtain ⟨wo, rfl⟩ : ∃ wo : World, wo = wr := ⟨_, rfl⟩
    obtain ⟨i, m, l, q1, q2, q3, pn, c1, c2, c3, cn, rfl, rfl, hi, hg1, hmi, IS⟩ := hrel
    by_cases hlt : i < 16
    case neg =>
      have hltz : ¬ (i : Int) < 16 := by omega
      have KS := hide (gSo nv pn m cn l wo (IS.out.stb wo (Agr.refl _ _ _)).2.2.2 IS.out.hn (by omega))
      have SY0 := hide (IS.out.stb wo (Agr.refl _ _ _))
      have B0 : Hid (Below w.heap.size w wo) := base0C_below IS.out.sr.g
      have KB := hide IS.out.blk
      have ER := hide IS.out.er
      clear IS
      go_wp2_with fail
      refine KS.out.mono ?_
      rintro e w1 ⟨hy, -, hB⟩
      obtain ⟨t1, g1', t2, g2', t3, g3', rfl, -, u1, u2, u3⟩ := hy ER.out
      rw [show (nv : Int).toNat = nv from Int.toNat_natCast nv] at *
      have LA := hide ((Below.refl w1.heap.size w1).alloc (Nat.le_refl _) (.cells #[.int .i64 (nv : Int), .slice t1 m g1', .slice t2 m g2', .slice t3 nv g3'] 26))
      have KA := hide (sys_blk w1 nv t1 m g1' t2 m g2' t3 nv g3')
      have K2 : Hid (Blk (w1.alloc (.cells #[.int .i64 (nv : Int), .slice t1 m g1', .slice t2 m g2', .slice t3 nv g3'] 26)) s5 26 (sysL nv q1 m c1 q2 m c2 q3 nv c3)) := Blk.alloc (show Blk w1 s5 26 _ from (hB.block s5 KB.out.lt).trans KB.out) _
      have SM := hide (rSame_any nv q1 t1 q2 t2 q3 t3 m nv c1 g1' c2 g2' c3 g3' l _ _ (w1.alloc (.cells #[.int .i64 (nv : Int), .slice t1 m g1', .slice t2 m g2', .slice t3 nv g3'] 26)) ((SY0.out.1.below hB).below LA.out) (u1.below LA.out) ((SY0.out.2.1.below hB).below LA.out) (u2.below LA.out) ((SY0.out.2.2.1.below hB).below LA.out) (u3.below LA.out) (by omega) (by omega))
      have B2 : Hid (Below w.heap.size w (w1.alloc (.cells #[.int .i64 (nv : Int), .slice t1 m g1', .slice t2 m g2', .slice t3 nv g3'] 26))) := (B0.out.trans (hB.mono B0.out.size)).alloc (by have := B0.out.size; have := hB.size; omega) _
      clear hy hB u1 u2 u3 SY0 B0 KB LA KS ER
      have a0 := K2.out.cell 0 rfl
      have a1 := K2.out.cell 1 rfl
      have a2 := K2.out.cell 2 rfl
      have a3 := K2.out.cell 3 rfl
      have b0 := KA.out.cell 0 rfl
      have b1 := KA.out.cell 1 rfl
      have b2 := KA.out.cell 2 rfl
      have b3 := KA.out.cell 3 rfl
      go_wp2_with fail
      refine SM.out.mono ?_
      rintro e w3 ⟨rfl, h⟩
      have B3 : Hid (Below w.heap.size w w3) := B2.out.trans (h.mono B2.out.size)
      clear h SM K2 KA B2 a0 b0 a1 b1 a2 b2 a3 b3
      go_wp2_with fail
      refine (A.out _).mono ?_
      rintro e w4 ⟨rfl, h⟩
      have B5 : Hid (Below w.heap.size w w4) := B3.out.trans (h.mono B3.out.size)
      clear h
      go_wp2_with fail
      go_ret
      exact ⟨rfl, B5.out⟩
    have hltz : (i : Int) < 16 := by omega
    clear A
    obtain ⟨s9, hs9⟩ : ∃ s9, s9 = wo.heap.size := ⟨_, rfl⟩
    have C1 := hide (IS.out.cur.below ((Below.refl wo.heap.size wo).alloc (Nat.le_refl _) (.cells #[.int .i64 0, .slice none 0 0, .slice none 0 0, .slice none 0 0] 26)))
    have K1 : Hid (Blk (wo.alloc (.cells #[.int .i64 0, .slice none 0 0, .slice none 0 0, .slice none 0 0] 26)) s9 26 [.int .i64 0, .slice none 0 0, .slice none 0 0, .slice none 0 0]) := Blk.new hs9
    have HN9 : Hid (s9 ≠ sb ∧ s9 ≠ s5) := ⟨by have := sr_lt IS.out.sr; omega, by have := IS.out.blk.lt; omega⟩
    have HLB : Hid (sb < s9 ∧ s5 < s9) := ⟨by have := sr_lt IS.out.sr; omega, by have := IS.out.blk.lt; omega⟩
    have HS9 : Hid (w.heap.size ≤ s9) := by
      show _ ≤ _
      have := (base0C_below IS.out.sr.g).size
      omega
    have HS9E : Hid (wo.heap.size = s9) := hs9.symm
    have KN := hide (N_any (base0C w) _ sb m0 c' p0 f 3 C1.out.sr (by decide) (by decide))
    go_wp2_with fail
    refine KN.out.mono ?_
    generalize wo.alloc (.cells #[.int .i64 0, .slice none 0 0, .slice none 0 0, .slice none 0 0] 26) = w1 at *
    rw [← hs9]
    clear hs9
    rintro e w2 ⟨y, rfl, ⟨y1, y2⟩, q, SS⟩
    have C2 := hide (C1.out.but HNE.out q SS)
    have K2 := hide (q.blk K1.out HN9.out.1)
    clear KN q SS C1 K1
    by_cases hy0 : y = 0
    · subst hy0
      have KR := hide (Range_neg (base0C w) w2 sb m0 c' p0 f (-1) m C2.out.sr (by decide) (by omega) (by omega))
      go_wp2_with fail
      refine KR.out.mono ?_
      rintro e w3 ⟨at_, rfl, ⟨a1, a2⟩, q, SS⟩
      have C3 := hide (C2.out.but HNE.out q SS)
      have K3 := hide (q.blk K2.out HN9.out.1)
      clear KR q SS C2 K2 y1 y2
      have x0 := C3.out.blk.cell 0 rfl
      have x1 := C3.out.blk.cell 1 rfl
      have x2 := C3.out.blk.cell 2 rfl
      have x3 := C3.out.blk.cell 3 rfl
      by_cases hin : 0 ≤ at_ ∧ at_ < (m : Int)
      case neg =>
        have KR := hide (gRem_no nv at_ q1 q2 q3 m c1 m c2 nv c3 w3 hin (by omega))
        go_wp2_with fail
        refine KR.out.mono ?_
        rintro e w4 ⟨rfl, hB⟩
        have C4 := hide (C3.out.below hB)
        have K4 : Hid (Blk w4 s9 26 [.int .i64 0, .slice none 0 0, .slice none 0 0, .slice none 0 0]) := (hB.block s9 K3.out.lt).trans K3.out
        have IB : Hid (IcS w ((((w4.setCell ⟨s9, 0, none⟩ (.int .i64 0)).setCell ⟨s9, 1, none⟩ (.slice none 0 0)).setCell ⟨s9, 2, none⟩ (.slice none 0 0)).setCell ⟨s9, 3, none⟩ (.slice none 0 0)) sb s5 p0 m0 c' f nv m l q1 q2 q3 pn c1 c2 c3 cn) := IS.out.back (C4.out.kept (kept_sets _ _ _ _) HN9.out.1 HN9.out.2 HS9.out (Nat.le_of_eq HS9E.out))
        have y0 := K4.out.cell 0 rfl
        have y1 := K4.out.cell 1 rfl
        have y2 := K4.out.cell 2 rfl
        have y3 := K4.out.cell 3 rfl
        have z0 := K4.out.free 0
        have z1 := K4.out.free 1
        have z2 := K4.out.free 2
        have z3 := K4.out.free 3
        clear hB KR K3 C3 C4 K4
        rcases (show at_ < 0 ∨ (¬ at_ < 0 ∧ (m : Int) ≤ at_) by omega) with h1 | ⟨h1, h2⟩
        · have d1 : decide (at_ < 0) = true := decide_eq_true h1
          go_wp2_with fail
          go_roundg (16 - i)
          case measure => exact hg1
          case rel => exact ⟨i + 1, m, l, q1, q2, q3, pn, c1, c2, c3, cn, rfl, by go_num, by omega, by omega, by omega, IB⟩
        · have d1 : decide (at_ < 0) = false := decide_eq_false h1
          have d2 : decide ((m : Int) ≤ at_) = true := decide_eq_true h2
          go_wp2_with fail
          go_roundg (16 - i)
          case measure => exact hg1
          case rel => exact ⟨i + 1, m, l, q1, q2, q3, pn, c1, c2, c3, cn, rfl, by go_num, by omega, by omega, by omega, IB⟩
      obtain ⟨j, rfl⟩ : ∃ j : Nat, at_ = (j : Int) := ⟨at_.toNat, by omega⟩
      have hj : j < m := by omega
      have KR := hide (gRemF nv q1 q2 q3 m c1 m c2 nv c3 j l w3 (IS.out.stb w3 C3.out.agr).1 IS.out.h1 hj (by omega))
      have dj0 : ¬ (j : Int) < 0 := by omega
      have dj1 : ¬ (m : Int) ≤ (j : Int) := by omega
      go_wp2_with fail
      refine KR.out.mono ?_
      rintro e w4 h
      obtain ⟨v, rfl⟩ := sof_ret h
      obtain ⟨v0, r1, n1, d1, r2, n2, d2, r3, n3, d3, er, rfl⟩ := sof_shape h
      have C4 := hide (C3.out.below h.2.2)
      have K4 : Hid (Blk w4 s9 26 [.int .i64 0, .slice none 0 0, .slice none 0 0, .slice none 0 0]) := (h.2.2.block s9 K3.out.lt).trans K3.out
      obtain ⟨wB, hwB⟩ : ∃ wB, wB = preW w3 s9 := ⟨_, rfl⟩
      have HBS : Hid (wB.heap.size = s9) := by show _ = _; rw [hwB]; exact preW_size (Nat.le_of_lt K3.out.lt)
      have SF : Hid (SoF nv (m - 1) (woC l j) wB (.returned (.tuple #[sysV v0 r1 n1 d1 r2 n2 d2 r3 n3 d3, .int .i64 er])) ((((w4.setCell ⟨s9, 0, none⟩ (.int .i64 v0)).setCell ⟨s9, 1, none⟩ (.slice r1 n1 d1)).setCell ⟨s9, 2, none⟩ (.slice r2 n2 d2)).setCell ⟨s9, 3, none⟩ (.slice r3 n3 d3))) := by
        refine hide (sof_store h (by rw [HBS.out]; exact Nat.le_refl _) K3.out.lt ?_ _ _ _ _)
        rw [hwB]; exact preW_below (Nat.le_of_lt K3.out.lt)
      have K5 : Hid (Blk ((((w4.setCell ⟨s9, 0, none⟩ (.int .i64 v0)).setCell ⟨s9, 1, none⟩ (.slice r1 n1 d1)).setCell ⟨s9, 2, none⟩ (.slice r2 n2 d2)).setCell ⟨s9, 3, none⟩ (.slice r3 n3 d3)) s9 26 (sysL v0 r1 n1 d1 r2 n2 d2 r3 n3 d3)) := setZ K4.out rfl _ _ _ _
      have C5 : Hid (Cur w wo ((((w4.setCell ⟨s9, 0, none⟩ (.int .i64 v0)).setCell ⟨s9, 1, none⟩ (.slice r1 n1 d1)).setCell ⟨s9, 2, none⟩ (.slice r2 n2 d2)).setCell ⟨s9, 3, none⟩ (.slice r3 n3 d3)) sb s5 p0 m0 c' f (sysL nv q1 m c1 q2 m c2 q3 nv c3)) := C4.out.kept (kept_sets _ _ _ _) HN9.out.1 HN9.out.2 HS9.out (Nat.le_of_eq HS9E.out)
      have KW := hide (rwo_any pn m cn j l ((((w4.setCell ⟨s9, 0, none⟩ (.int .i64 v0)).setCell ⟨s9, 1, none⟩ (.slice r1 n1 d1)).setCell ⟨s9, 2, none⟩ (.slice r2 n2 d2)).setCell ⟨s9, 3, none⟩ (.slice r3 n3 d3)) (IS.out.stb _ C5.out.agr).2.2.2 IS.out.hn hj (by omega))
      have OK2 : Hid (∀ k, k < m - 1 → okC nv (woC l j k)) := wo_ok IS.out.ok hj
      have y0 := K4.out.cell 0 rfl
      have y1 := K4.out.cell 1 rfl
      have y2 := K4.out.cell 2 rfl
      have y3 := K4.out.cell 3 rfl
      have z0 := K4.out.free 0
      have z1 := K4.out.free 1
      have z2 := K4.out.free 2
      have z3 := K4.out.free 3
      clear h KR K3 C3 C4 K4 hwB
      go_wp2_with fail
      refine KW.out.mono ?_
      generalize ((((w4.setCell ⟨s9, 0, none⟩ (.int .i64 v0)).setCell ⟨s9, 1, none⟩ (.slice r1 n1 d1)).setCell ⟨s9, 2, none⟩ (.slice r2 n2 d2)).setCell ⟨s9, 3, none⟩ (.slice r3 n3 d3)) = w5 at *
      rintro e w6 ⟨u, rfl, hO, hB⟩
      obtain ⟨pw, cw, rfl, hcw, hS⟩ := own_srow hO
      have HWF : Hid (∀ ad, pw = some ad → s9 ≤ ad.block) := fun ad e => by
        have := own_lt hO ad.block (by subst e; rfl)
        have := K5.out.lt
        omega
      have HW := hide hS
      have C6 := hide (C5.out.below hB)
      have K6 : Hid (Blk w6 s9 26 (sysL v0 r1 n1 d1 r2 n2 d2 r3 n3 d3)) := (hB.block s9 K5.out.lt).trans K5.out
      have B56 := hide hB
      have hmm : m - 1 ≤ i + 1 := by omega
      clear hO hS hB KW K5 C5 y0 z0 y1 z1 y2 z2 y3 z3
      generalize m - 1 = mm at *
      generalize woC l j = ll at *
      have T := hide (rSo nv pw mm cw ll w6 HW.out hcw (by omega))
      go_wp2_with fail
      refine T.out.mono ?_
      rintro e w7 ⟨hy, hz, hB⟩
      have C7 := hide (C6.out.below hB)
      have K7 : Hid (Blk w7 s9 26 (sysL v0 r1 n1 d1 r2 n2 d2 r3 n3 d3)) := (hB.block s9 K6.out.lt).trans K6.out
      have B57 : Hid (Below w5.heap.size w5 w7) := B56.out.trans (hB.mono B56.out.size)
      have W7 := hide (HW.out.below hB)
      have FM := hide (sof_form SF.out)
      clear T hB B56 K6 C6 HW SF
      rcases FM.out with ⟨h0, rfl, rfl, rfl, rfl, rfl, hd1, s1, s2, s3, f1, f2, f3⟩ | ⟨h0, he, rfl, ⟨rfl, rfl, rfl⟩, ⟨rfl, rfl, rfl⟩, rfl, rfl, rfl⟩
      · obtain ⟨t1, g1', t2, g2', t3, g3', rfl, -, u1, u2, u3⟩ := hy h0
        rw [show (nv : Int).toNat = nv from Int.toNat_natCast nv] at *
        have LA := hide ((Below.refl w7.heap.size w7).alloc (Nat.le_refl _) (.cells #[.int .i64 (nv : Int), .slice t1 mm g1', .slice t2 mm g2', .slice t3 nv g3'] 26))
        have KA := hide (sys_blk w7 nv t1 mm g1' t2 mm g2' t3 nv g3')
        have C8 := hide (C7.out.below LA.out)
        have K8 : Hid (Blk (w7.alloc (.cells #[.int .i64 (nv : Int), .slice t1 mm g1', .slice t2 mm g2', .slice t3 nv g3'] 26)) s9 26 (sysL nv r1 mm d1 r2 mm d2 r3 nv d3)) := K7.out.alloc _
        have R1 := hide ((s1.below B57.out).below LA.out)
        have R2 := hide ((s2.below B57.out).below LA.out)
        have R3 := hide ((s3.below B57.out).below LA.out)
        have RW := hide (W7.out.below LA.out)
        have SM := hide (rSame_any nv r1 t1 r2 t2 r3 t3 mm nv d1 g1' d2 g2' d3 g3' ll _ _ (w7.alloc (.cells #[.int .i64 (nv : Int), .slice t1 mm g1', .slice t2 mm g2', .slice t3 nv g3'] 26)) R1.out (u1.below LA.out) R2.out (u2.below LA.out) R3.out (u3.below LA.out) (by omega) (by omega))
        have HD1 := hide hd1
        have HF1 := hide f1
        have HF2 := hide f2
        have HF3 := hide f3
        have E0 := hide h0
        clear hy hz s1 s2 s3 u1 u2 u3 K7 C7 B57 W7 FM LA f1 f2 f3 hd1 h0
        have a0 := K8.out.cell 0 rfl
        have a1 := K8.out.cell 1 rfl
        have a2 := K8.out.cell 2 rfl
        have a3 := K8.out.cell 3 rfl
        have b0 := KA.out.cell 0 rfl
        have b1 := KA.out.cell 1 rfl
        have b2 := KA.out.cell 2 rfl
        have b3 := KA.out.cell 3 rfl
        go_wp2_with fail
        refine SM.out.mono ?_
        generalize w7.alloc (.cells #[.int .i64 (nv : Int), .slice t1 mm g1', .slice t2 mm g2', .slice t3 nv g3'] 26) = w8 at *
        generalize w7.heap.size = s14 at *
        rintro e w9 ⟨rfl, hB⟩
        have C9 := hide (C8.out.below hB)
        have K9 : Hid (Blk w9 s9 26 (sysL nv r1 mm d1 r2 mm d2 r3 nv d3)) := (hB.block s9 K8.out.lt).trans K8.out
        have IC : Hid (IcS w ((((w9.setCell ⟨s5, 0, none⟩ (.int .i64 (nv : Int))).setCell ⟨s5, 1, none⟩ (.slice r1 mm d1)).setCell ⟨s5, 2, none⟩ (.slice r2 mm d2)).setCell ⟨s5, 3, none⟩ (.slice r3 nv d3)) sb s5 p0 m0 c' f nv mm ll r1 r2 r3 pw d1 d2 d3 cw) :=
          ⟨sr_kept C9.out.sr (kept_sets _ _ _ _) HNE.out HS5.out, setZ C9.out.blk rfl _ _ _ _, (sys_stb (B := s9) ⟨R1.out.below hB, R2.out.below hB, R3.out.below hB, RW.out.below hB⟩ (fun ad e => by rw [← HBS.out]; exact HF1.out ad e) (fun ad e => by rw [← HBS.out]; exact HF2.out ad e) (fun h ad e => by rw [← HBS.out]; exact HF3.out h ad e) HWF.out HLB.out.1 (Or.inl HLB.out.2)).mono (agr_sets (Agr.refl _ _ _) (Or.inl rfl) _ _ _ _), OK2.out, E0.out, HD1.out, hcw⟩
        clear hB K8 C8 R1 R2 R3 RW SM KA a0 b0 a1 b1 a2 b2 a3 b3 HD1 HF1 HF2 HF3 E0
        have a0 := K9.out.cell 0 rfl
        have a1 := K9.out.cell 1 rfl
        have a2 := K9.out.cell 2 rfl
        have a3 := K9.out.cell 3 rfl
        have y0 := C9.out.blk.cell 0 rfl
        have y1 := C9.out.blk.cell 1 rfl
        have y2 := C9.out.blk.cell 2 rfl
        have y3 := C9.out.blk.cell 3 rfl
        have z0 := C9.out.blk.free 0
        have z1 := C9.out.blk.free 1
        have z2 := C9.out.blk.free 2
        have z3 := C9.out.blk.free 3
        go_wp2_with fail
        go_roundg (16 - i)
        case measure => exact hg1
        case rel => exact ⟨i + 1, mm, ll, r1, r2, r3, pw, d1, d2, d3, cw, rfl, by go_num, by omega, by omega, by omega, IC⟩
      · obtain rfl := hz h0
        subst he
        have E0 := hide h0
        have de : (erS (nv : Int) mm ll == 0) = false := by simpa using h0
        generalize erS (nv : Int) mm ll = er at *
        have LA := hide ((Below.refl w7.heap.size w7).alloc (Nat.le_refl _) (.cells #[.int .i64 0, .slice none 0 0, .slice none 0 0, .slice none 0 0] 26))
        have KA := hide (sys_blk w7 0 none 0 0 none 0 0 none 0 0)
        have C8 := hide (C7.out.below LA.out)
        have K8 : Hid (Blk (w7.alloc (.cells #[.int .i64 0, .slice none 0 0, .slice none 0 0, .slice none 0 0] 26)) s9 26 [.int .i64 0, .slice none 0 0, .slice none 0 0, .slice none 0 0]) := K7.out.alloc _
        have SM := hide (rSame_any 0 none none none none none none 0 0 0 0 0 0 0 0 ll (fun _ => false) (fun _ => 0) (w7.alloc (.cells #[.int .i64 0, .slice none 0 0, .slice none 0 0, .slice none 0 0] 26)) (fun h => absurd h (by omega)) (fun h => absurd h (by omega)) (fun h => absurd h (by omega)) (fun h => absurd h (by omega)) (fun h => absurd h (by omega)) (fun h => absurd h (by omega)) (by omega) (by omega))
        clear hy hz K7 C7 B57 W7 FM LA h0
        have a0 := K8.out.cell 0 rfl
        have a1 := K8.out.cell 1 rfl
        have a2 := K8.out.cell 2 rfl
        have a3 := K8.out.cell 3 rfl
        have b0 := KA.out.cell 0 rfl
        have b1 := KA.out.cell 1 rfl
        have b2 := KA.out.cell 2 rfl
        have b3 := KA.out.cell 3 rfl
        go_wp2_with fail
        refine SM.out.mono ?_
        generalize w7.alloc (.cells #[.int .i64 0, .slice none 0 0, .slice none 0 0, .slice none 0 0] 26) = w8 at *
        rintro e w9 ⟨rfl, hB⟩
        have IB := hide (IS.out.back (C8.out.below hB))
        clear hB K8 C8 SM KA a0 b0 a1 b1 a2 b2 a3 b3 E0
        go_wp2_with fail
        go_roundg (16 - i)
        case measure => exact hg1
        case rel => exact ⟨i + 1, m, l, q1, q2, q3, pn, c1, c2, c3, cn, rfl, by go_num, by omega, by omega, by omega, IB⟩
    · have dy : (y == 0) = false := by simpa using hy0
      have KB := hide (cbuild_any (base0C w) w2 sb m0 c' nv 1 p0 f C2.out.sr ⟨by omega, by omega⟩ (by decide))
      go_wp2_with fail
      refine KB.out.mono ?_
      rintro e w3 ⟨v, nn, x, rfl, hnn, hx, hO, q, SS⟩
      have C3 := hide (C2.out.but HNE.out q SS)
      have K3 := hide (q.blk K2.out HN9.out.1)
      obtain ⟨pc, cc, rfl, hcc0, hpc⟩ := own_srow hO
      have hcl := own_lt hO
      have hs2 := K2.out.lt
      clear KB q SS C2 K2 y1 y2 hO
      by_cases hn0 : nn = 0
      · subst hn0
        have IB := hide (IS.out.back C3.out)
        clear C3 K3 hx hpc hcl
        go_wp2_with fail
        go_roundg (16 - i)
        case measure => exact hg1
        case rel => exact ⟨i + 1, m, l, q1, q2, q3, pn, c1, c2, c3, cn, rfl, by go_num, by omega, by omega, by omega, IB⟩
      obtain rfl : nn = 1 := by omega
      obtain ⟨x0, hx0⟩ : ∃ x0, x0 = x 0 := ⟨_, rfl⟩
      have HX : Hid (okC nv x0) := by rw [hx0]; exact hx 0 (by decide)
      obtain ⟨cb, co, rfl, hcb0, hcc'⟩ := hpc (by decide)
      have hcb : cb < w3.heap.size ∧ cb ≠ s9 := ⟨hcb0, by have := hcl cb rfl; omega⟩
      have hcc : ∀ r, r < 5 → w3.cell? ⟨cb, co + r, none⟩ = some (cnC x 0 r) := fun r hr => by
        have := hcc' 0 (by decide) r hr
        rw [show co + 0 * 5 + r = co + r by omega] at this
        exact this
      have hcn : ∀ r, cnC x 0 r = cnC (fun _ => x0) 0 r := fun r => by unfold cnC; rw [hx0]
      simp only [hcn] at hcc
      clear hx hpc hcl hcb0 hcc' hx0 hcn hs2 hcc0
      go_wp2_with fail
      have HLT : Hid (cb < w3.heap.size ∧ cb ≠ s9) := hcb
      have CC : Hid (∀ W' : World, (∀ o, W'.cell? ⟨cb, o, none⟩ = w3.cell? ⟨cb, o, none⟩) → W'.cell? ⟨cb, co, none⟩ = some (.int .i64 x0.a) ∧ W'.cell? ⟨cb, co + 1, none⟩ = some (.int .i64 x0.b) ∧ W'.cell? ⟨cb, co + 2, none⟩ = some (.int .i64 x0.rel) ∧ W'.cell? ⟨cb, co + 3, none⟩ = some (.int .i64 x0.cc) ∧ W'.cell? ⟨cb, co + 4, none⟩ = some (.int .i64 x0.st)) := fun W' h => ⟨(h _).trans (hcc 0 (by decide)), (h _).trans (hcc 1 (by decide)), (h _).trans (hcc 2 (by decide)), (h _).trans (hcc 3 (by decide)), (h _).trans (hcc 4 (by decide))⟩
      have KC : Hid (∀ W', Kept s9 w3 W' → ∀ o, W'.cell? ⟨cb, o, none⟩ = w3.cell? ⟨cb, o, none⟩) := fun W' h o => by
        unfold World.cell?
        rw [h.block cb HLT.out.1 HLT.out.2]
      obtain ⟨wB, hwB⟩ : ∃ wB, wB = preW w3 s9 := ⟨_, rfl⟩
      have HBS : Hid (wB.heap.size = s9) := by show _ = _; rw [hwB]; exact preW_size (Nat.le_of_lt K3.out.lt)
      have HPB : Hid (Below wB.heap.size wB w3) := by show Below _ _ _; rw [hwB]; exact preW_below (Nat.le_of_lt K3.out.lt)
      have JQ : Hid (∀ W', Kept s9 w3 W' → W'.cell? ⟨s5, 0, none⟩ = some (.int .i64 (nv : Int)) ∧ W'.cell? ⟨s5, 1, none⟩ = some (.slice q1 m c1) ∧ W'.cell? ⟨s5, 2, none⟩ = some (.slice q2 m c2) ∧ W'.cell? ⟨s5, 3, none⟩ = some (.slice q3 nv c3) ∧ W'.cell? ⟨cb, co, none⟩ = some (.int .i64 x0.a) ∧ W'.cell? ⟨cb, co + 1, none⟩ = some (.int .i64 x0.b) ∧ W'.cell? ⟨cb, co + 2, none⟩ = some (.int .i64 x0.rel) ∧ W'.cell? ⟨cb, co + 3, none⟩ = some (.int .i64 x0.cc) ∧ W'.cell? ⟨cb, co + 4, none⟩ = some (.int .i64 x0.st)) := fun W' h => by
        have k := C3.out.blk.kept h (Ne.symm HN9.out.2)
        exact ⟨k.cell 0 rfl, k.cell 1 rfl, k.cell 2 rfl, k.cell 3 rfl, CC.out W' (KC.out W' h)⟩
      clear hcc hcb hwB
      refine MJ.wp_region_mixed (fun W' => W'.cell? ⟨s5, 0, none⟩ = some (.int .i64 (nv : Int)) ∧ W'.cell? ⟨s5, 1, none⟩ = some (.slice q1 m c1) ∧ W'.cell? ⟨s5, 2, none⟩ = some (.slice q2 m c2) ∧ W'.cell? ⟨s5, 3, none⟩ = some (.slice q3 nv c3) ∧ W'.cell? ⟨cb, co, none⟩ = some (.int .i64 x0.a) ∧ W'.cell? ⟨cb, co + 1, none⟩ = some (.int .i64 x0.b) ∧ W'.cell? ⟨cb, co + 2, none⟩ = some (.int .i64 x0.rel) ∧ W'.cell? ⟨cb, co + 3, none⟩ = some (.int .i64 x0.cc) ∧ W'.cell? ⟨cb, co + 4, none⟩ = some (.int .i64 x0.st)) [4, 5, 6, 7, 8, 9] [(70, 4), (65, 5), (71, 6), (72, 7), (11, 9)] (A4M wB w3 s9 nv (m + 1) (upd l m x0)) (by kernel_rfl) (by kernel_rfl) (by simp) ?h0 (fun D D' vs vs' W hD h => h.ext hD) (fun D vs W i hM _ _ _ _ => JQ.out W hM.kp) ?_
      case h0 => exact fun vs => ⟨⟨rfl, rfl, rfl, Nat.le_refl _, fun _ _ _ => rfl⟩, ⟨fun _ => ⟨rfl, rfl, rfl, Nat.le_refl _, fun _ _ => rfl⟩, fun h => Bool.noConfusion h⟩, TlM.idle rfl rfl rfl rfl rfl⟩
      repeat (refine MJ.lex_calm rfl (by rfl) (fun K hK => ?_); apply Exists.intro; refine ⟨fun W' hW => ?_, ?_⟩; (dsimp only at hW; go_simp; exact rfl); go_simp; refine hK _ ?_; clear hK K)
      refine MJ.lex_made (by rfl) rfl ?_ ?_
      · rintro D vs W hM hD hcl hdep
        have f5 := off_of (hcl 5 4 (by decide +kernel)) hD
        have f6 := off_of (hcl 6 5 (by decide +kernel)) f5
        have f7 := off_of (hcl 7 5 (by decide +kernel)) f5
        have f8 := off_of (hcl 8 6 (by decide +kernel)) f6
        have f9 := off_of (hcl 9 7 (by decide +kernel)) f7
        have hw := hM.hd.h0 hD
        have K := hide (gAddF nv q1 q2 q3 m c1 m c2 nv c3 l x0 W (IS.out.stb W (C3.out.agr.below hw)).1 IS.out.h1 (by omega))
        have FIN : Hid (∀ e w', SoF nv (m + 1) (upd l m x0) W e w' → ∃ v, e = .returned v ∧ A4M wB w3 s9 nv (m + 1) (upd l m x0) (upd D 4 true) (upd vs 4 v) w') := fun e w' h => by
          have h2 := h.base hw
          obtain ⟨v, rfl⟩ := sof_ret h
          exact ⟨v, rfl, Kept.of h2.2.2, ⟨fun q => by simp [upd] at q, fun _ _ => ⟨by simpa [upd] using h2, (h2.2.2.block s9 K3.out.lt).trans K3.out⟩⟩, TlM.idle_upd (by decide) f5 f6 f7 f8 f9⟩
        clear hM hw
        simp [go_sem, evS, List.lookup]
        exact K.out.mono FIN.out
      repeat (refine MJ.lex_calm rfl (by rfl) (fun K hK => ?_); apply Exists.intro; refine ⟨fun W' hW => ?_, ?_⟩; (dsimp only at hW; go_simp; exact rfl); go_simp; refine hK _ ?_; clear hK K)
      refine MJ.lex_made (by rfl) rfl ?_ ?_
      · rintro D vs W hM hD hcl hdep
        have f4 := hdep 4 (by decide +kernel)
        have f6 := off_of (hcl 6 5 (by decide +kernel)) hD
        have f7 := off_of (hcl 7 5 (by decide +kernel)) hD
        have f8 := off_of (hcl 8 6 (by decide +kernel)) f6
        have f9 := off_of (hcl 9 7 (by decide +kernel)) f7
        have h4 := hM.hd.h4 f4 hD
        have FIN : Hid (A4M wB w3 s9 nv (m + 1) (upd l m x0) (upd D 5 true) (upd vs 5 (vs 4)) W) := ⟨hM.kp, A4H.done (by simp [upd]) (by rw [show upd D 5 true 4 = D 4 by simp [upd]]; exact f4), TlM.op0 (by decide) f6 f7 f8 f9 h4.1 h4.2⟩
        clear hM h4
        simp [go_sem, evS, List.lookup]
        exact FIN.out
      repeat (refine MJ.lex_calm rfl (by rfl) (fun K hK => ?_); apply Exists.intro; refine ⟨fun W' hW => ?_, ?_⟩; (dsimp only at hW; go_simp; exact rfl); go_simp; refine hK _ ?_; clear hK K)
      refine MJ.lex_made (by rfl) rfl ?_ ?_
      · rintro D vs W hM hD hcl hdep
        have f0 := hdep 5 (by decide +kernel)
        have D5 := f0
        have f3 := off_of (hcl 8 6 (by decide +kernel)) hD
        have ⟨v0, q1, n1, c1, q2, n2, c2, q3, n3, c3, er, e⟩ := sof_shape (hM.tl.t0 f0 f3).1
        have FIN : Hid (A4M wB w3 s9 nv (m + 1) (upd l m x0) (upd D 6 true) (upd vs 6 (sysV v0 q1 n1 c1 q2 n2 c2 q3 n3 c3)) W) := ⟨hM.kp, A4H.done (by rw [show upd D 6 true 5 = D 5 by simp [upd]]; exact D5) (by rw [show upd D 6 true 4 = D 4 by simp [upd]]; exact hcl 5 4 (by decide +kernel) D5), hM.tl.op1 (by decide) f0 e rfl⟩
        clear hM
        simp [go_sem, evS, List.lookup, e]
        exact FIN.out
      repeat (refine MJ.lex_calm rfl (by rfl) (fun K hK => ?_); apply Exists.intro; refine ⟨fun W' hW => ?_, ?_⟩; (dsimp only at hW; go_simp; exact rfl); go_simp; refine hK _ ?_; clear hK K)
      refine MJ.lex_made (by rfl) rfl ?_ ?_
      · rintro D vs W hM hD hcl hdep
        have f0 := hdep 5 (by decide +kernel)
        have D5 := f0
        have f4 := off_of (hcl 9 7 (by decide +kernel)) hD
        have ⟨a, er, e⟩ := hM.tl.int_at f0
        have FIN : Hid (A4M wB w3 s9 nv (m + 1) (upd l m x0) (upd D 7 true) (upd vs 7 (.int .i64 er)) W) := ⟨hM.kp, A4H.done (by rw [show upd D 7 true 5 = D 5 by simp [upd]]; exact D5) (by rw [show upd D 7 true 4 = D 4 by simp [upd]]; exact hcl 5 4 (by decide +kernel) D5), hM.tl.op2 (by decide) f0 f4 e rfl⟩
        clear hM
        simp [go_sem, evS, List.lookup, e]
        exact FIN.out
      repeat (refine MJ.lex_calm rfl (by rfl) (fun K hK => ?_); apply Exists.intro; refine ⟨fun W' hW => ?_, ?_⟩; (dsimp only at hW; go_simp; exact rfl); go_simp; refine hK _ ?_; clear hK K)
      refine MJ.lex_made (by rfl) rfl ?_ ?_
      · rintro D vs W hM hD hcl hdep
        have f1 := hdep 6 (by decide +kernel)
        have ⟨v0, q1, n1, c1, q2, n2, c2, q3, n3, c3, e3, f0, s2, hF⟩ := hM.tl.store_at f1 hD (Nat.le_of_eq HBS.out) K3.out.lt HPB.out
        have FIN := hide (fun u => (⟨(((hM.kp.set 0 _).set 1 _).set 2 _).set 3 _, A4H.done (by rw [show upd D 8 true 5 = D 5 by simp [upd]]; exact f0) (by rw [show upd D 8 true 4 = D 4 by simp [upd]]; exact hcl 5 4 (by decide +kernel) f0), hM.tl.op3 (v := u) (by decide) f0 hF⟩ : A4M wB w3 s9 nv (m + 1) (upd l m x0) (upd D 8 true) (upd vs 8 u) _))
        have y0 := s2.cell 0 rfl
        have y1 := s2.cell 1 rfl
        have y2 := s2.cell 2 rfl
        have y3 := s2.cell 3 rfl
        have z0 := s2.free 0
        have z1 := s2.free 1
        have z2 := s2.free 2
        have z3 := s2.free 3
        clear hM hF s2
        simp [go_sem, evS, List.lookup, e3, y0, y1, y2, y3, z0, z1, z2, z3]
        exact FIN.out _
      repeat (refine MJ.lex_calm rfl (by rfl) (fun K hK => ?_); apply Exists.intro; refine ⟨fun W' hW => ?_, ?_⟩; (dsimp only at hW; go_simp; exact rfl); go_simp; refine hK _ ?_; clear hK K)
      refine MJ.lex_made (by rfl) rfl ?_ ?_
      · rintro D vs W hM hD hcl hdep
        have f2 := hdep 7 (by decide +kernel)
        have D5 := (hM.tl.t2 f2).1
        have FIN : Hid (A4M wB w3 s9 nv (m + 1) (upd l m x0) (upd D 9 true) (upd vs 9 (vs 7)) W) := ⟨hM.kp, A4H.done (by rw [show upd D 9 true 5 = D 5 by simp [upd]]; exact D5) (by rw [show upd D 9 true 4 = D 4 by simp [upd]]; exact hcl 5 4 (by decide +kernel) D5), hM.tl.op4 (by decide) f2 rfl⟩
        clear hM
        simp [go_sem, evS, List.lookup]
        exact FIN.out
      refine MJ.lex_nil ?_
      rintro vs w5 hM
      have ⟨v0, r1, n1, d1, r2, n2, d2, r3, n3, d3, er, e5, hK, hS⟩ := hM.tl.at_end
      have SF := hide hS
      have K5 := hide hK
      have KP := hide hM.kp
      have C5 := hide (C3.out.kept hM.kp HN9.out.1 HN9.out.2 HS9.out (Nat.le_of_eq HS9E.out))
      have J5 : Hid (w5.cell? ⟨cb, co, none⟩ = some (.int .i64 x0.a) ∧ w5.cell? ⟨cb, co + 1, none⟩ = some (.int .i64 x0.b) ∧ w5.cell? ⟨cb, co + 2, none⟩ = some (.int .i64 x0.rel) ∧ w5.cell? ⟨cb, co + 3, none⟩ = some (.int .i64 x0.cc) ∧ w5.cell? ⟨cb, co + 4, none⟩ = some (.int .i64 x0.st)) := CC.out w5 (KC.out w5 hM.kp)
      clear hM hK hS JQ C3 K3 KC HPB
      simp only [fillS, List.foldl_cons, List.foldl_nil, e5]
      go_wp2_with fail
      go_simp
      have JQ : Hid (∀ W', Below w5.heap.size w5 W' → W'.cell? ⟨cb, co, none⟩ = some (.int .i64 x0.a) ∧ W'.cell? ⟨cb, co + 1, none⟩ = some (.int .i64 x0.b) ∧ W'.cell? ⟨cb, co + 2, none⟩ = some (.int .i64 x0.rel) ∧ W'.cell? ⟨cb, co + 3, none⟩ = some (.int .i64 x0.cc) ∧ W'.cell? ⟨cb, co + 4, none⟩ = some (.int .i64 x0.st)) := fun W' h => by
        have hlt : cb < w5.heap.size := Nat.lt_of_lt_of_le HLT.out.1 KP.out.size
        obtain ⟨j1, j2, j3, j4, j5⟩ := J5.out
        exact ⟨(h.cell (p := ⟨cb, co, none⟩) hlt).trans j1, (h.cell (p := ⟨cb, co + 1, none⟩) hlt).trans j2, (h.cell (p := ⟨cb, co + 2, none⟩) hlt).trans j3, (h.cell (p := ⟨cb, co + 3, none⟩) hlt).trans j4, (h.cell (p := ⟨cb, co + 4, none⟩) hlt).trans j5⟩
      refine MJ.wp_region_mixed (fun W' => W'.cell? ⟨cb, co, none⟩ = some (.int .i64 x0.a) ∧ W'.cell? ⟨cb, co + 1, none⟩ = some (.int .i64 x0.b) ∧ W'.cell? ⟨cb, co + 2, none⟩ = some (.int .i64 x0.rel) ∧ W'.cell? ⟨cb, co + 3, none⟩ = some (.int .i64 x0.cc) ∧ W'.cell? ⟨cb, co + 4, none⟩ = some (.int .i64 x0.st)) [1, 5, 6, 7] [(74, 1), (78, 5), (79, 6), (10, 7)] (IcM w5 m l x0) (by kernel_rfl) (by kernel_rfl) (by simp) ?h0 (fun D D' vs vs' W hD h => h.ext hD) (fun D vs W i hM _ _ _ _ => JQ.out W hM.bl) ?_
      case h0 => exact fun vs => ⟨⟨rfl, rfl, rfl, Nat.le_refl _, fun _ _ => rfl⟩, HdM.start ⟨rfl, rfl, rfl, Nat.le_refl _, fun _ _ => rfl⟩, fun h => Bool.noConfusion h⟩
      repeat (refine MJ.lex_calm rfl (by rfl) (fun K hK => ?_); apply Exists.intro; refine ⟨fun W' hW => ?_, ?_⟩; (dsimp only at hW; go_simp; exact rfl); go_simp; refine hK _ ?_; clear hK K)
      refine MJ.lex_made (by rfl) rfl ?_ ?_
      · rintro D vs W hM hD hcl hdep
        have f6 := off_of (hcl 6 1 (by decide +kernel)) hD
        have f7 := off_of (hcl 7 6 (by decide +kernel)) f6
        refine does_append_any W _ _ 22 rfl W.heap.size 40 it _ 5 40 Try.underlying22 i1 i2 i3 i4 rfl (by decide) (.slice none 0 0) 0 [] rfl (World.ownsRow_nil _ _ _ _) pn m cn (cnC l) rfl (IS.out.stb W (C5.out.agr.below hM.bl)).2.2.2 (cn_one l) (by unfold maxLen; omega) (by omega) (Nat.le_refl _) ?_
        intro v' w' ho hgr
        have hB : Below W.heap.size W w' := Below.by (Below.refl W.heap.size W) (World.ownsRow_nil W W.heap.size 40 5) hgr (Nat.le_refl _) (Nat.le_refl _)
        rw [Nat.zero_add, List.nil_append] at ho
        exact ⟨hM.bl.trans (hB.mono hM.bl.size), hM.hd.opA (by decide) (by decide) (by decide) f6 f7 ho hB, fun q => by rw [show upd D 1 true 7 = D 7 by simp [upd], f7] at q; exact Bool.noConfusion q⟩
      repeat (refine MJ.lex_calm rfl (by rfl) (fun K hK => ?_); apply Exists.intro; refine ⟨fun W' hW => ?_, ?_⟩; (dsimp only at hW; go_simp; exact rfl); go_simp; refine hK _ ?_; clear hK K)
      refine MJ.lex_made (by rfl) rfl ?_ ?_
      · rintro D vs W hM hD hcl hdep
        have f6 := off_of (hcl 6 5 (by decide +kernel)) hD
        have f7 := off_of (hcl 7 6 (by decide +kernel)) f6
        have FIN : Hid (IcM w5 m l x0 (upd D 5 true) (upd vs 5 (.slice (some ⟨W.heap.size, 0, none⟩) 1 1)) (W.alloc (.cells ([.int .i64 x0.a, .int .i64 x0.b, .int .i64 x0.rel, .int .i64 x0.cc, .int .i64 x0.st] : List Value).toArray 40))) := ⟨hM.bl.alloc hM.bl.size _, hM.hd.opB (by decide) (by decide) (by decide) f6 f7, fun q => by rw [show upd D 5 true 7 = D 7 by simp [upd], f7] at q; exact Bool.noConfusion q⟩
        clear hM
        simp [go_sem, evS, List.lookup]
        exact FIN.out
      repeat (refine MJ.lex_calm rfl (by rfl) (fun K hK => ?_); apply Exists.intro; refine ⟨fun W' hW => ?_, ?_⟩; (dsimp only at hW; go_simp; exact rfl); go_simp; refine hK _ ?_; clear hK K)
      refine MJ.lex_made (by rfl) rfl ?_ ?_
      · rintro D vs W hM hD hcl hdep
        have fa := hdep 1 (by decide +kernel)
        have fb := hdep 5 (by decide +kernel)
        have f7 := off_of (hcl 7 6 (by decide +kernel)) hD
        have hO := (hM.hd.ha fa hD).1
        obtain ⟨g, e, hb⟩ := hM.hd.hb fb hD
        have hW := hM.bl
        refine does_append W _ _ 22 rfl w5.heap.size 40 it _ 5 40 Try.underlying22 i1 i2 i3 i4 rfl (by decide) (vs 1) m _ rfl hO ⟨g, 0, none⟩ 1 1 [.int .i64 x0.a, .int .i64 x0.b, .int .i64 x0.rel, .int .i64 x0.cc, .int .i64 x0.st] e (by decide) rfl ?c1 ?c2 ?c3 ?c4 ?c5 ?_
        case c1 =>
          intro j u hj
          rw [addr_add]
          exact hb.cell j hj
        case c2 => intro u hu; simp at hu; rcases hu with rfl | rfl | rfl | rfl | rfl <;> rfl
        case c3 => unfold maxLen; omega
        case c4 => omega
        case c5 => exact hW.size
        intro v' w' ho hgr hd
        exact ⟨Below.by hW hO hgr (Nat.le_refl _) (Nat.le_refl _), hM.hd.opC (by decide) (by decide) (by decide) fa hD f7 ho hgr, fun q => by rw [show upd D 6 true 7 = D 7 by simp [upd], f7] at q; exact Bool.noConfusion q⟩
      repeat (refine MJ.lex_calm rfl (by rfl) (fun K hK => ?_); apply Exists.intro; refine ⟨fun W' hW => ?_, ?_⟩; (dsimp only at hW; go_simp; exact rfl); go_simp; refine hK _ ?_; clear hK K)
      refine MJ.lex_made (by rfl) rfl ?_ ?_
      · rintro D vs W hM hD hcl hdep
        have fc := hdep 6 (by decide +kernel)
        have hO := hM.hd.hc fc hD
        have FIN : Hid (IcM w5 m l x0 (upd D 7 true) (upd vs 7 (vs 6)) W) := ⟨hM.bl, HdM.done (by simp [upd]) (by rw [show upd D 7 true 6 = D 6 by simp [upd]]; exact fc), fun _ => by rw [show upd vs 7 (vs 6) 7 = vs 6 by simp [upd]]; exact hO⟩
        clear hM hO
        simp [go_sem, evS, List.lookup]
        exact FIN.out
      refine MJ.lex_nil ?_
      rintro us w6 hM
      obtain ⟨pw, cw, e7, hcw, hS⟩ := own_srow (hM.fin rfl)
      have HWF : Hid (∀ ad, pw = some ad → s9 ≤ ad.block) := fun ad e => by
        have := own_lt (hM.fin rfl) ad.block (by rw [e7]; subst e; rfl)
        have := K5.out.lt
        omega
      have HW := hide hS
      have B56 := hide hM.bl
      have C6 := hide (C5.out.below hM.bl)
      have K6 : Hid (Blk w6 s9 26 (sysL v0 r1 n1 d1 r2 n2 d2 r3 n3 d3)) := (hM.bl.block s9 K5.out.lt).trans K5.out
      have OK2 : Hid (∀ k, k < m + 1 → okC nv (upd l m x0 k)) := upd_ok IS.out.ok HX.out
      have hmm : m + 1 ≤ i + 1 := by omega
      clear hM hS K5 C5 KP JQ J5 CC HLT HX
      simp only [fillS, List.foldl_cons, List.foldl_nil, e7]
      clear e7 e5
      generalize m + 1 = mm at *
      generalize upd l m x0 = ll at *
      have T := hide (rSo nv pw mm cw ll w6 HW.out hcw (by omega))
      go_wp2_with fail
      refine T.out.mono ?_
      rintro e w7 ⟨hy, hz, hB⟩
      have C7 := hide (C6.out.below hB)
      have K7 : Hid (Blk w7 s9 26 (sysL v0 r1 n1 d1 r2 n2 d2 r3 n3 d3)) := (hB.block s9 K6.out.lt).trans K6.out
      have B57 : Hid (Below w5.heap.size w5 w7) := B56.out.trans (hB.mono B56.out.size)
      have W7 := hide (HW.out.below hB)
      have FM := hide (sof_form SF.out)
      clear T hB B56 K6 C6 HW SF
      rcases FM.out with ⟨h0, rfl, rfl, rfl, rfl, rfl, hd1, s1, s2, s3, f1, f2, f3⟩ | ⟨h0, he, rfl, ⟨rfl, rfl, rfl⟩, ⟨rfl, rfl, rfl⟩, rfl, rfl, rfl⟩
      · obtain ⟨t1, g1', t2, g2', t3, g3', rfl, -, u1, u2, u3⟩ := hy h0
        rw [show (nv : Int).toNat = nv from Int.toNat_natCast nv] at *
        have LA := hide ((Below.refl w7.heap.size w7).alloc (Nat.le_refl _) (.cells #[.int .i64 (nv : Int), .slice t1 mm g1', .slice t2 mm g2', .slice t3 nv g3'] 26))
        have KA := hide (sys_blk w7 nv t1 mm g1' t2 mm g2' t3 nv g3')
        have C8 := hide (C7.out.below LA.out)
        have K8 : Hid (Blk (w7.alloc (.cells #[.int .i64 (nv : Int), .slice t1 mm g1', .slice t2 mm g2', .slice t3 nv g3'] 26)) s9 26 (sysL nv r1 mm d1 r2 mm d2 r3 nv d3)) := K7.out.alloc _
        have R1 := hide ((s1.below B57.out).below LA.out)
        have R2 := hide ((s2.below B57.out).below LA.out)
        have R3 := hide ((s3.below B57.out).below LA.out)
        have RW := hide (W7.out.below LA.out)
        have SM := hide (rSame_any nv r1 t1 r2 t2 r3 t3 mm nv d1 g1' d2 g2' d3 g3' ll _ _ (w7.alloc (.cells #[.int .i64 (nv : Int), .slice t1 mm g1', .slice t2 mm g2', .slice t3 nv g3'] 26)) R1.out (u1.below LA.out) R2.out (u2.below LA.out) R3.out (u3.below LA.out) (by omega) (by omega))
        have HD1 := hide hd1
        have HF1 := hide f1
        have HF2 := hide f2
        have HF3 := hide f3
        have E0 := hide h0
        clear hy hz s1 s2 s3 u1 u2 u3 K7 C7 B57 W7 FM LA f1 f2 f3 hd1 h0
        have a0 := K8.out.cell 0 rfl
        have a1 := K8.out.cell 1 rfl
        have a2 := K8.out.cell 2 rfl
        have a3 := K8.out.cell 3 rfl
        have b0 := KA.out.cell 0 rfl
        have b1 := KA.out.cell 1 rfl
        have b2 := KA.out.cell 2 rfl
        have b3 := KA.out.cell 3 rfl
        go_wp2_with fail
        refine SM.out.mono ?_
        generalize w7.alloc (.cells #[.int .i64 (nv : Int), .slice t1 mm g1', .slice t2 mm g2', .slice t3 nv g3'] 26) = w8 at *
        generalize w7.heap.size = s14 at *
        rintro e w9 ⟨rfl, hB⟩
        have C9 := hide (C8.out.below hB)
        have K9 : Hid (Blk w9 s9 26 (sysL nv r1 mm d1 r2 mm d2 r3 nv d3)) := (hB.block s9 K8.out.lt).trans K8.out
        have IC : Hid (IcS w ((((w9.setCell ⟨s5, 0, none⟩ (.int .i64 (nv : Int))).setCell ⟨s5, 1, none⟩ (.slice r1 mm d1)).setCell ⟨s5, 2, none⟩ (.slice r2 mm d2)).setCell ⟨s5, 3, none⟩ (.slice r3 nv d3)) sb s5 p0 m0 c' f nv mm ll r1 r2 r3 pw d1 d2 d3 cw) :=
          ⟨sr_kept C9.out.sr (kept_sets _ _ _ _) HNE.out HS5.out, setZ C9.out.blk rfl _ _ _ _, (sys_stb (B := s9) ⟨R1.out.below hB, R2.out.below hB, R3.out.below hB, RW.out.below hB⟩ (fun ad e => by rw [← HBS.out]; exact HF1.out ad e) (fun ad e => by rw [← HBS.out]; exact HF2.out ad e) (fun h ad e => by rw [← HBS.out]; exact HF3.out h ad e) HWF.out HLB.out.1 (Or.inl HLB.out.2)).mono (agr_sets (Agr.refl _ _ _) (Or.inl rfl) _ _ _ _), OK2.out, E0.out, HD1.out, hcw⟩
        clear hB K8 C8 R1 R2 R3 RW SM KA a0 b0 a1 b1 a2 b2 a3 b3 HD1 HF1 HF2 HF3 E0
        have a0 := K9.out.cell 0 rfl
        have a1 := K9.out.cell 1 rfl
        have a2 := K9.out.cell 2 rfl
        have a3 := K9.out.cell 3 rfl
        have y0 := C9.out.blk.cell 0 rfl
        have y1 := C9.out.blk.cell 1 rfl
        have y2 := C9.out.blk.cell 2 rfl
        have y3 := C9.out.blk.cell 3 rfl
        have z0 := C9.out.blk.free 0
        have z1 := C9.out.blk.free 1
        have z2 := C9.out.blk.free 2
        have z3 := C9.out.blk.free 3
        go_wp2_with fail
        go_roundg (16 - i)
        case measure => exact hg1
        case rel => exact ⟨i + 1, mm, ll, r1, r2, r3, pw, d1, d2, d3, cw, rfl, by go_num, by omega, by omega, by omega, IC⟩
      · obtain rfl := hz h0
        subst he
        have E0 := hide h0
        have de : (erS (nv : Int) mm ll == 0) = false := by simpa using h0
        generalize erS (nv : Int) mm ll = er at *
        have LA := hide ((Below.refl w7.heap.size w7).alloc (Nat.le_refl _) (.cells #[.int .i64 0, .slice none 0 0, .slice none 0 0, .slice none 0 0] 26))
        have KA := hide (sys_blk w7 0 none 0 0 none 0 0 none 0 0)
        have C8 := hide (C7.out.below LA.out)
        have K8 : Hid (Blk (w7.alloc (.cells #[.int .i64 0, .slice none 0 0, .slice none 0 0, .slice none 0 0] 26)) s9 26 [.int .i64 0, .slice none 0 0, .slice none 0 0, .slice none 0 0]) := K7.out.alloc _
        have SM := hide (rSame_any 0 none none none none none none 0 0 0 0 0 0 0 0 ll (fun _ => false) (fun _ => 0) (w7.alloc (.cells #[.int .i64 0, .slice none 0 0, .slice none 0 0, .slice none 0 0] 26)) (fun h => absurd h (by omega)) (fun h => absurd h (by omega)) (fun h => absurd h (by omega)) (fun h => absurd h (by omega)) (fun h => absurd h (by omega)) (fun h => absurd h (by omega)) (by omega) (by omega))
        clear hy hz K7 C7 B57 W7 FM LA h0
        have a0 := K8.out.cell 0 rfl
        have a1 := K8.out.cell 1 rfl
        have a2 := K8.out.cell 2 rfl
        have a3 := K8.out.cell 3 rfl
        have b0 := KA.out.cell 0 rfl
        have b1 := KA.out.cell 1 rfl
        have b2 := KA.out.cell 2 rfl
        have b3 := KA.out.cell 3 rfl
        go_wp2_with fail
        refine SM.out.mono ?_
        generalize w7.alloc (.cells #[.int .i64 0, .slice none 0 0, .slice none 0 0, .slice none 0 0] 26) = w8 at *
        rintro e w9 ⟨rfl, hB⟩
        have IB := hide (IS.out.back (C8.out.below hB))
        clear hB K8 C8 SM KA a0 b0 a1 b1 a2 b2 a3 b3 E0
        go_wp2_with fail
        go_roundg (16 - i)
        case measure => exact hg1
        case rel => exact ⟨i + 1, m, l, q1, q2, q3, pn, c1, c2, c3, cn, rfl, by go_num, by omega, by omega, by omega, IB⟩
end Go.Proofs.Ytdoncogkepopiaa
