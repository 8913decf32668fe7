/- What the law ConstraintStrengths runs, where Solve answers as the chapter asks; no other condition. -/
import Derived.Test.YtdoncogkepopiaaCoL5
import Derived.Test.YtdoncogkepopiaaCoW
import Derived.Test.YtdoncogkepopiaaOwP
import Derived.BigQuiet
namespace Go.Proofs.Ytdoncogkepopiaa
open Go.RowKit Go.Sort
set_option linter.unusedVariables false
set_option linter.unusedSimpArgs false

theorem below_byS {B : Nat} {w0 w w' : World} {base size n : Nat} {e : TypeId} {v : Value} {xs : List Value} (h : Below B w0 w) (ho : w.ownsRow base e size v n xs) (g : w.grownBy w' v.ownBlock) (hb : B ≤ base) (hB : B ≤ w0.heap.size) : Below B w0 w' :=
  Below.grown h g (Nat.le_trans hB h.size) (fun j hj => Nat.le_trans hb (ho.lt _ hj).1)
section
variable {l l' : Nat → Cn} {k : Int} {i : Nat} {ac h' : Nat → Bool}
theorem subL_yes (h : SubL i l l' k) (hs : (l i).st ≤ k) : SubL (i + 1) l (upd l' (cnF l k i) (l i)) k := fun j hj hjs => by
  by_cases e : j = i
  · subst e; simp [upd]
  · have := cn_lt (l := l) (k := k) (show j < i by omega) hjs
    simp only [upd]
    rw [if_neg (by omega)]
    exact h j (by omega) hjs
theorem subL_no (h : SubL i l l' k) (hs : ¬ (l i).st ≤ k) : SubL (i + 1) l l' k := fun j hj hjs => by
  by_cases e : j = i
  · subst e; exact absurd hjs hs
  · exact h j (by omega) hjs
theorem subA_yes (h : SubA i l k ac h') (hs : (l i).st ≤ k) : SubA (i + 1) l k ac (updB h' (cnF l k i) (ac i)) := fun j hj hjs => by
  unfold updB
  by_cases e : j = i
  · subst e; rw [if_pos rfl]
  · have := cn_lt (l := l) (k := k) (show j < i by omega) hjs
    rw [if_neg (by omega)]
    exact h j (by omega) hjs
theorem subA_no (h : SubA i l k ac h') (hs : ¬ (l i).st ≤ k) : SubA (i + 1) l k ac h' := fun j hj hjs => by
  by_cases e : j = i
  · subst e; exact absurd hjs hs
  · exact h j (by omega) hjs
theorem flat_snocC (n : Nat) (x : Nat → Cn) (c : Cn) : flat (n + 1) 5 (cnC (upd x n c)) = flat n 5 (cnC x) ++ [.int .i64 c.a, .int .i64 c.b, .int .i64 c.rel, .int .i64 c.cc, .int .i64 c.st] := by
  rw [flat_succ]
  congr 1
  · exact flat_congr fun i' hi' j => by
      have : upd x n c i' = x i' := by simp [upd, Nat.ne_of_lt hi']
      unfold cnC; rw [this]
  · simp [upd, cnC, List.range_succ]
theorem flat_snocB (n : Nat) (x : Nat → Bool) (c : Bool) : flat (n + 1) 1 (bvC (updB x n c)) = flat n 1 (bvC x) ++ [.bool c] := by
  rw [flat_succ]
  congr 1
  · exact flat_congr fun i' hi' j => by
      have : updB x n c i' = x i' := by unfold updB; rw [if_neg (by omega)]
      unfold bvC; rw [this]
  · simp [updB, bvC, List.range_succ]
end
theorem info_boS : (Try.prog.info? 4).map (fun i => (i.zero, i.size, i.bytes)) = some (some (.bool false), 1, 1) := by kernel_rfl
/-- The two lists of the law's loop. -/
structure StI (W0 W : World) (v : Value) (n : Nat) (x : Nat → Cn) (u : Value) (nu : Nat) (h : Nat → Bool) : Prop where
  below : Below W0.heap.size W0 W
  own : W.ownsRow W0.heap.size 40 5 v n (flat n 5 (cnC x))
  ownh : W.ownsRow W0.heap.size 4 1 u nu (flat nu 1 (bvC h))
set_option maxRecDepth 100000 in
set_option maxHeartbeats 40000000 in
theorem cstr_core (hS : KSo 10) (p0 : Option Addr) (n0 c0 : Nat) (f : Nat → Int) (w : World) (hnc : n0 ≤ c0) (hr : Reads w p0 n0 f) (hf : ∀ k, -9223372036854775808 ≤ f k ∧ f k ≤ 9223372036854775807) :
    Calls Try.prog 7 #[.slice p0 n0 c0] w fun e w' => e = .returned (.bool true) ∧ Below w.heap.size w w' := by
  have A := hide (fun w' => cawake_any hS w')
  have KS := hide hS
  have K0 := hide (New_any p0 n0 c0 w hnc (fun h => by obtain ⟨b, off, e, _⟩ := hr h; exact ⟨_, e⟩))
  obtain ⟨it, i1, i2, i3, i4⟩ := info_partsU info_cnB
  obtain ⟨ib, b1', b2', b3', b4'⟩ := info_partsU info_boS
  clear hS
  go_enter Try.func7, Try.ntmps7
  go_wp2_with fail
  refine K0.out.mono ?_
  rintro e wa ⟨sb, m0, c', rfl, G1, hsb, ⟨hm1, hm2⟩, B1⟩
  have S1 : Hid (SR (base0C w) wa sb p0 m0 c' f) := ⟨base0C_grew G1.1, hsb, fun h0 => by
    obtain ⟨b, off, e, hc⟩ := hr (by omega)
    exact ⟨b, off, e, fun k hk => hc k (by omega)⟩, hm2, hf, 0, Nat.zero_le _, B1⟩
  clear B1 K0 hr hnc G1 hsb
  have KV := hide (Range_neg (base0C w) wa sb m0 c' p0 f 1 5 S1.out (by decide) (by decide) (by decide))
  go_wp2_with fail
  refine KV.out.mono ?_
  rintro e wb ⟨vars, rfl, ⟨v1, v2⟩, -, SS⟩
  obtain ⟨vn, rfl⟩ : ∃ vn : Nat, vars = (vn : Int) := ⟨vars.toNat, by omega⟩
  have K1 := hide (cbuild_any (base0C w) wb sb m0 c' vn 12 p0 f SS ⟨by omega, by omega⟩ (by decide))
  clear SS KV S1
  go_wp2_with fail
  refine K1.out.mono ?_
  rintro e wc ⟨v, m, l, rfl, hm, hl, O1, -, S2⟩
  obtain ⟨p, c, rfl, hc, hp⟩ := own_srow O1
  have B0 : Hid (Below w.heap.size w wc) := base0C_below S2.g
  have T1 := hide (KS.out vn p m c l wc hp hc (by omega))
  have EV := hide (erS_valid (n := vn) (by omega) (by omega) hl)
  have HP := hide hp
  have HL := hide hl
  have hvn : 1 ≤ vn ∧ vn ≤ 5 := by omega
  obtain ⟨hvn1, hvn2⟩ := hvn
  clear O1 S2 K1 hp hm1 hm2 hl v1 v2 hf
  go_wp2_with fail
  refine T1.out.mono ?_
  rintro e wd ⟨hy, hz, hB⟩
  have BD : Hid (Below w.heap.size w wd) := B0.out.trans (hB.mono B0.out.size)
  have HQ := hide (HP.out.below hB)
  clear T1 hB HP B0
  rcases EV.out with ⟨e0, hF⟩ | e0
  case inr =>
    have hz' := hz (by rw [e0]; decide)
    rw [e0] at hz'
    subst hz'
    have BE : Hid (Below w.heap.size w (wd.alloc (.cells #[.int .i64 0, .slice none 0 0, .slice none 0 0, .slice none 0 0] 26))) := BD.out.alloc BD.out.size _
    have LE := hide ((Below.refl wd.heap.size wd).alloc (Nat.le_refl _) (.cells #[.int .i64 0, .slice none 0 0, .slice none 0 0, .slice none 0 0] 26))
    have KE := hide (sys_blk wd 0 none 0 0 none 0 0 none 0 0)
    have HE := hide (HQ.out.below LE.out)
    have y0 := KE.out.cell 0 rfl
    have y1 := KE.out.cell 1 rfl
    have y2 := KE.out.cell 2 rfl
    have y3 := KE.out.cell 3 rfl
    have ER2 : Hid (∀ (k : Nat) (x : Nat → Cn), k ≤ 2 → SubL m l x (k : Int) → erS (vn : Int) (cnF l k m) x = 13) := fun k x hk h => erS_conf (by omega) (by have := cn_bound (l := l) (k := (k : Int)) m; omega) (sub_ok h HL.out) (fun q => by
      have h1 := (sub_ac0 (by omega) h).1 q
      rw [erS_ok (by omega) (by omega) HL.out h1] at e0
      omega)
    clear hy hz HQ BD LE EV e0
    go_wp2_with fail
    generalize wd.alloc (.cells #[.int .i64 0, .slice none 0 0, .slice none 0 0, .slice none 0 0] 26) = W at *
    generalize wd.heap.size = tb at *
    clear y0 y1 y2 y3
    go_loopg [8] 5 (fun g1 vk wr => ∃ k : Nat, vk = .int .i64 (k : Int) ∧ k ≤ 3 ∧ 3 - k < g1 ∧ Hid (Below W.heap.size W wr))
    case atStart => exact ⟨0, by go_num, by omega, by omega, Below.refl _ _⟩
    case round =>
      obtain ⟨wu, rfl⟩ : ∃ wu : World, wu = wr := ⟨_, rfl⟩
      obtain ⟨k, rfl, hk, hg, BU⟩ := hrel
      by_cases hlk : k < 3
      case neg =>
        have hkz : ¬ (k : Int) < 3 := by omega
        clear HE KE HL ER2 KS 
        go_wp2_with fail
        refine (A.out _).mono ?_
        rintro e w4 ⟨rfl, h⟩
        have B5 : Hid (Below w.heap.size w w4) := BE.out.trans ((BU.out.trans (h.mono BU.out.size)).mono BE.out.size)
        clear h
        go_wp2_with fail
        go_ret
        exact ⟨rfl, B5.out⟩
      have hkz : (k : Int) < 3 := by omega
      have S0 : Hid (StI W wu (.slice none 0 0) (cnF l k 0) (fun _ => ⟨0, 0, 0, 0, 0⟩) (.slice none 0 0) 0 (fun _ => false)) := ⟨BU.out, World.ownsRow_nil _ _ _ _, World.ownsRow_nil _ _ _ _⟩
      clear BU
      go_wp2_with fail
      go_loopg [9, 10, 11] 14 (fun g2 va vb vi wq => ∃ (i : Nat) (v u : Value) (x : Nat → Cn) (h' : Nat → Bool), v = va ∧ u = vb ∧ vi = .int .i64 (i : Int) ∧ i ≤ m ∧ m - i < g2 ∧ Hid (SubL i l x (k : Int)) ∧ Hid (True) ∧ Hid (StI W wq v (cnF l k i) x u 0 h'))
      case atStart => exact ⟨0, _, _, _, _, rfl, rfl, by go_num, by omega, by omega, fun j hj => absurd hj (Nat.not_lt_zero _), trivial, S0⟩
      case round =>
        clear S0
        obtain ⟨wi, rfl⟩ : ∃ wi : World, wi = wr := ⟨_, rfl⟩
        obtain ⟨i, va, vb, x, h', rfl, rfl, rfl, hi, hg2, SL, SA, S⟩ := hrel
        by_cases hlt : i < m
        case pos =>
          have hltz : (i : Int) < (m : Int) := by omega
          have hi0 : (0 : Int) ≤ (i : Int) := by omega
          have CB := cn_bound (l := l) (k := (k : Int)) i
          obtain ⟨pb, po, rfl, hpb, hpc⟩ := (HE.out.below S.out.below) (by omega)
          have g0 : wi.cell? ⟨pb, po + i * 5, none⟩ = some (.int .i64 (l i).a) := hpc i hlt 0 (by decide)
          have g1 : wi.cell? ⟨pb, po + i * 5 + 1, none⟩ = some (.int .i64 (l i).b) := hpc i hlt 1 (by decide)
          have g2' : wi.cell? ⟨pb, po + i * 5 + 2, none⟩ = some (.int .i64 (l i).rel) := hpc i hlt 2 (by decide)
          have g3 : wi.cell? ⟨pb, po + i * 5 + 3, none⟩ = some (.int .i64 (l i).cc) := hpc i hlt 3 (by decide)
          have g4 : wi.cell? ⟨pb, po + i * 5 + 4, none⟩ = some (.int .i64 (l i).st) := hpc i hlt 4 (by decide)
          clear hpc hpb A KS HL ER2 
          by_cases hs : (l i).st ≤ (k : Int)
          case neg =>
            have d0 : decide ((l i).st ≤ (k : Int)) = false := decide_eq_false hs
            have SL1 := hide (subL_no SL.out hs)
            have SA1 := SA
            have S1 : Hid (StI W wi va (cnF l k (i + 1)) x vb 0 h') := by
              show StI _ _ _ _ _ _ _ _
              rw [cn_no hs]; exact S.out
            clear SL SA S hs
            go_wp2_with fail
            go_roundg (m - i)
            case measure => exact hg2
            case rel => exact ⟨i + 1, _, _, _, _, rfl, rfl, by go_num, by omega, by omega, SL1, SA1, S1⟩
          have d0 : decide ((l i).st ≤ (k : Int)) = true := decide_eq_true hs
          have SL1 := hide (subL_yes SL.out hs)
          have EV5 := hide (flat_snocC (cnF l k i) x (l i))
          have SA1 := SA
          have CY : Hid (cnF l k (i + 1) = cnF l k i + 1) := cn_yes hs
          have OO := S.out.own.alloc (.cells #[.int .i64 (l i).a, .int .i64 (l i).b, .int .i64 (l i).rel, .int .i64 (l i).cc, .int .i64 (l i).st] 40)
          have OH := hide (S.out.ownh.alloc (.cells #[.int .i64 (l i).a, .int .i64 (l i).b, .int .i64 (l i).rel, .int .i64 (l i).cc, .int .i64 (l i).st] 40))
          have BA : Hid (Below W.heap.size W (wi.alloc (.cells #[.int .i64 (l i).a, .int .i64 (l i).b, .int .i64 (l i).rel, .int .i64 (l i).cc, .int .i64 (l i).st] 40))) := S.out.below.alloc S.out.below.size _
          clear SL SA S hs
          go_wp2_with (at_builtin; refine wpList_append_own _ rfl _ _ 22 rfl W.heap.size 40 it _ 5 40 Try.underlying22 i1 i2 i3 i4 rfl (by decide) va (cnF l k i) _ rfl OO ⟨_, 0, none⟩ 1 1 [.int .i64 (l i).a, .int .i64 (l i).b, .int .i64 (l i).rel, .int .i64 (l i).cc, .int .i64 (l i).st] rfl rfl ?c1 ?c2 ?c3 ?c4 ?c5 ?_)
          case c1 =>
            intro j u hj
            rw [addr_add]
            exact (Blk.new (vs := [.int .i64 (l i).a, .int .i64 (l i).b, .int .i64 (l i).rel, .int .i64 (l i).cc, .int .i64 (l i).st]) (by simp [World.size_alloc])).cell j hj
          case c2 => intro u hu; simp at hu; rcases hu with rfl | rfl | rfl | rfl | rfl <;> rfl
          case c3 => unfold maxLen; omega
          case c4 => omega
          case c5 => exact BA.out.size
          intro v' wc ho' hgr _
          have O2 : Hid (wc.ownsRow W.heap.size 40 5 v' (cnF l k i + 1) (flat (cnF l k i + 1) 5 (cnC (upd x (cnF l k i) (l i))))) := by
            show World.ownsRow _ _ _ _ _ _ _
            rw [EV5.out]; exact ho'
          have B2 : Hid (Below W.heap.size W wc) := below_byS BA.out OO hgr (Nat.le_refl _) (Nat.le_refl _)
          have H2 := hide (own_grownP OH.out OO (by decide) hgr)
          clear ho' hgr OO OH BA EV5 g0 g1 g2' g3 g4
          have S1 : Hid (StI W wc v' (cnF l k (i + 1)) (upd x (cnF l k i) (l i)) vb 0 h') := by
            show StI _ _ _ _ _ _ _ _
            rw [CY.out]
            exact ⟨B2.out, O2.out, H2.out⟩
          clear O2 H2 B2 CY
          go_wp2_with fail
          go_roundg (m - i)
          case measure => exact hg2
          case rel => exact ⟨i + 1, _, _, _, _, rfl, rfl, by go_num, by omega, by omega, SL1, SA1, S1⟩
        have hltz : ¬ (i : Int) < (m : Int) := by omega
        obtain rfl : i = m := by omega
        have CB := cn_bound (l := l) (k := (k : Int)) i
        obtain ⟨pn, cn, rfl, hcn, hpn⟩ := own_srow S.out.own
        obtain ⟨ph, ch, rfl, -, hph⟩ := own_srow S.out.ownh
        have BI := hide S.out.below
        have T2 := hide (KS.out vn pn (cnF l k i) cn x wi hpn hcn (by omega))
        have E2 := hide (ER2.out k x (by omega) SL.out)
        have HH := hide hph.breads
        clear S KS HE KE HL SL SA ER2 A hph hpn hcn 
        generalize cnF l k i = nn at *
        go_wp2_with fail
        refine T2.out.mono ?_
        rintro e wx ⟨hy, hz, hB⟩
        have BX : Hid (Below W.heap.size W wx) := BI.out.trans (hB.mono BI.out.size)
        have hz' := hz (by rw [E2.out]; decide)
        rw [E2.out] at hz'
        subst hz'
        have B4 : Hid (Below W.heap.size W (wx.alloc (.cells #[.int .i64 0, .slice none 0 0, .slice none 0 0, .slice none 0 0] 26))) := BX.out.alloc BX.out.size _
        clear hy hz hB T2 BI BX HH E2
        go_wp2_with fail
        generalize wx.alloc (.cells #[.int .i64 0, .slice none 0 0, .slice none 0 0, .slice none 0 0] 26) = w4 at *
        generalize wx.heap.size = tc at *
        go_loopg [14] 2 (fun g3 vj wz => vj = .int .i64 0 ∧ 0 < g3 ∧ Hid (Below w4.heap.size w4 wz))
        case atStart => exact ⟨by go_num, by omega, Below.refl _ _⟩
        case round =>
          obtain ⟨wj, rfl⟩ : ∃ wj : World, wj = wr := ⟨_, rfl⟩
          obtain ⟨rfl, hg3, BJ⟩ := hrel
          have BH : Hid (Below W.heap.size W wj) := B4.out.trans (BJ.out.mono B4.out.size)
          clear B4 BJ
          go_wp2_with fail
          go_roundg (3 - k)
          case measure => exact hg
          case rel => exact ⟨k + 1, by go_num, by omega, by omega, BH⟩
  obtain ⟨q1, c1, q2, c2, q3, c3, rfl, -, -, b1, -⟩ := hy e0
  rw [show (vn : Int).toNat = vn from Int.toNat_natCast vn] at *
  have BE : Hid (Below w.heap.size w (wd.alloc (.cells #[.int .i64 vn, .slice q1 m c1, .slice q2 m c2, .slice q3 vn c3] 26))) := BD.out.alloc BD.out.size _
  have LE := hide ((Below.refl wd.heap.size wd).alloc (Nat.le_refl _) (.cells #[.int .i64 vn, .slice q1 m c1, .slice q2 m c2, .slice q3 vn c3] 26))
  have KE := hide (sys_blk wd vn q1 m c1 q2 m c2 q3 vn c3)
  have HE := hide (HQ.out.below LE.out)
  have BB := hide (b1.below LE.out)
  have y0 := KE.out.cell 0 rfl
  have y1 := KE.out.cell 1 rfl
  have y2 := KE.out.cell 2 rfl
  have y3 := KE.out.cell 3 rfl
  have ER2 : Hid (∀ (k : Nat) (x : Nat → Cn), k ≤ 2 → SubL m l x (k : Int) → erS (vn : Int) (cnF l k m) x = 0) := fun k x hk h => erS_ok (by omega) (by have := cn_bound (l := l) (k := (k : Int)) m; omega) (sub_ok h HL.out) ((sub_ac0 (by omega) h).2 hF)
  have HEQ : Hid (∀ (k : Nat) (x : Nat → Cn) (h' : Nat → Bool), k ≤ 2 → SubL m l x (k : Int) → SubA m l (k : Int) (acB vn m l 3) h' → ∀ q, q < cnF l k m → acB vn (cnF l k m) x 3 q = h' q) := fun k x h' hk h h2 q hq => by
    obtain ⟨j, hj, hs, rfl⟩ := cn_surj hq
    rw [h2 j hj hs]
    exact sub_all (by omega) h hj hs
  generalize acB vn m l 3 = ac at *
  clear hy hz HQ BD LE b1 EV hF e0
  go_wp2_with fail
  generalize wd.alloc (.cells #[.int .i64 vn, .slice q1 m c1, .slice q2 m c2, .slice q3 vn c3] 26) = W at *
  generalize wd.heap.size = tb at *
  clear y0 y1 y2 y3
  go_loopg [8] 5 (fun g1 vk wr => ∃ k : Nat, vk = .int .i64 (k : Int) ∧ k ≤ 3 ∧ 3 - k < g1 ∧ Hid (Below W.heap.size W wr))
  case atStart => exact ⟨0, by go_num, by omega, by omega, Below.refl _ _⟩
  case round =>
    obtain ⟨wu, rfl⟩ : ∃ wu : World, wu = wr := ⟨_, rfl⟩
    obtain ⟨k, rfl, hk, hg, BU⟩ := hrel
    by_cases hlk : k < 3
    case neg =>
      have hkz : ¬ (k : Int) < 3 := by omega
      clear HE KE HL ER2 KS BB HEQ
      go_wp2_with fail
      refine (A.out _).mono ?_
      rintro e w4 ⟨rfl, h⟩
      have B5 : Hid (Below w.heap.size w w4) := BE.out.trans ((BU.out.trans (h.mono BU.out.size)).mono BE.out.size)
      clear h
      go_wp2_with fail
      go_ret
      exact ⟨rfl, B5.out⟩
    have hkz : (k : Int) < 3 := by omega
    have S0 : Hid (StI W wu (.slice none 0 0) (cnF l k 0) (fun _ => ⟨0, 0, 0, 0, 0⟩) (.slice none 0 0) (cnF l k 0) (fun _ => false)) := ⟨BU.out, World.ownsRow_nil _ _ _ _, World.ownsRow_nil _ _ _ _⟩
    clear BU
    go_wp2_with fail
    go_loopg [9, 10, 11] 14 (fun g2 va vb vi wq => ∃ (i : Nat) (v u : Value) (x : Nat → Cn) (h' : Nat → Bool), v = va ∧ u = vb ∧ vi = .int .i64 (i : Int) ∧ i ≤ m ∧ m - i < g2 ∧ Hid (SubL i l x (k : Int)) ∧ Hid (SubA i l (k : Int) ac h') ∧ Hid (StI W wq v (cnF l k i) x u (cnF l k i) h'))
    case atStart => exact ⟨0, _, _, _, _, rfl, rfl, by go_num, by omega, by omega, fun j hj => absurd hj (Nat.not_lt_zero _), fun j hj => absurd hj (Nat.not_lt_zero _), S0⟩
    case round =>
      clear S0
      obtain ⟨wi, rfl⟩ : ∃ wi : World, wi = wr := ⟨_, rfl⟩
      obtain ⟨i, va, vb, x, h', rfl, rfl, rfl, hi, hg2, SL, SA, S⟩ := hrel
      by_cases hlt : i < m
      case pos =>
        have hltz : (i : Int) < (m : Int) := by omega
        have hi0 : (0 : Int) ≤ (i : Int) := by omega
        have CB := cn_bound (l := l) (k := (k : Int)) i
        obtain ⟨pb, po, rfl, hpb, hpc⟩ := (HE.out.below S.out.below) (by omega)
        have g0 : wi.cell? ⟨pb, po + i * 5, none⟩ = some (.int .i64 (l i).a) := hpc i hlt 0 (by decide)
        have g1 : wi.cell? ⟨pb, po + i * 5 + 1, none⟩ = some (.int .i64 (l i).b) := hpc i hlt 1 (by decide)
        have g2' : wi.cell? ⟨pb, po + i * 5 + 2, none⟩ = some (.int .i64 (l i).rel) := hpc i hlt 2 (by decide)
        have g3 : wi.cell? ⟨pb, po + i * 5 + 3, none⟩ = some (.int .i64 (l i).cc) := hpc i hlt 3 (by decide)
        have g4 : wi.cell? ⟨pb, po + i * 5 + 4, none⟩ = some (.int .i64 (l i).st) := hpc i hlt 4 (by decide)
        clear hpc hpb A KS HL ER2 HEQ
        by_cases hs : (l i).st ≤ (k : Int)
        case neg =>
          have d0 : decide ((l i).st ≤ (k : Int)) = false := decide_eq_false hs
          have SL1 := hide (subL_no SL.out hs)
          have SA1 : Hid (SubA (i + 1) l (k : Int) ac h') := hide (subA_no SA.out hs)
          have S1 : Hid (StI W wi va (cnF l k (i + 1)) x vb (cnF l k (i + 1)) h') := by
            show StI _ _ _ _ _ _ _ _
            rw [cn_no hs]; exact S.out
          clear SL SA S hs
          go_wp2_with fail
          go_roundg (m - i)
          case measure => exact hg2
          case rel => exact ⟨i + 1, _, _, _, _, rfl, rfl, by go_num, by omega, by omega, SL1, SA1, S1⟩
        have d0 : decide ((l i).st ≤ (k : Int)) = true := decide_eq_true hs
        have SL1 := hide (subL_yes SL.out hs)
        have EV5 := hide (flat_snocC (cnF l k i) x (l i))
        have SA1 := hide (subA_yes SA.out hs)
        have EVB := hide (flat_snocB (cnF l k i) h' (ac i))
        have CY : Hid (cnF l k (i + 1) = cnF l k i + 1) := cn_yes hs
        have OO := S.out.own.alloc (.cells #[.int .i64 (l i).a, .int .i64 (l i).b, .int .i64 (l i).rel, .int .i64 (l i).cc, .int .i64 (l i).st] 40)
        have OH := hide (S.out.ownh.alloc (.cells #[.int .i64 (l i).a, .int .i64 (l i).b, .int .i64 (l i).rel, .int .i64 (l i).cc, .int .i64 (l i).st] 40))
        have BA : Hid (Below W.heap.size W (wi.alloc (.cells #[.int .i64 (l i).a, .int .i64 (l i).b, .int .i64 (l i).rel, .int .i64 (l i).cc, .int .i64 (l i).st] 40))) := S.out.below.alloc S.out.below.size _
        clear SL SA S hs
        go_wp2_with (at_builtin; refine wpList_append_own _ rfl _ _ 22 rfl W.heap.size 40 it _ 5 40 Try.underlying22 i1 i2 i3 i4 rfl (by decide) va (cnF l k i) _ rfl OO ⟨_, 0, none⟩ 1 1 [.int .i64 (l i).a, .int .i64 (l i).b, .int .i64 (l i).rel, .int .i64 (l i).cc, .int .i64 (l i).st] rfl rfl ?c1 ?c2 ?c3 ?c4 ?c5 ?_)
        case c1 =>
          intro j u hj
          rw [addr_add]
          exact (Blk.new (vs := [.int .i64 (l i).a, .int .i64 (l i).b, .int .i64 (l i).rel, .int .i64 (l i).cc, .int .i64 (l i).st]) (by simp [World.size_alloc])).cell j hj
        case c2 => intro u hu; simp at hu; rcases hu with rfl | rfl | rfl | rfl | rfl <;> rfl
        case c3 => unfold maxLen; omega
        case c4 => omega
        case c5 => exact BA.out.size
        intro v' wc ho' hgr _
        have O2 : Hid (wc.ownsRow W.heap.size 40 5 v' (cnF l k i + 1) (flat (cnF l k i + 1) 5 (cnC (upd x (cnF l k i) (l i))))) := by
          show World.ownsRow _ _ _ _ _ _ _
          rw [EV5.out]; exact ho'
        have B2 : Hid (Below W.heap.size W wc) := below_byS BA.out OO hgr (Nat.le_refl _) (Nat.le_refl _)
        have H2 := hide (own_grownP OH.out OO (by decide) hgr)
        clear ho' hgr OO OH BA EV5 g0 g1 g2' g3 g4
        have z2 := (show Blk wc tb 26 (sysL vn q1 m c1 q2 m c2 q3 vn c3) from (B2.out.block tb KE.out.lt).trans KE.out).cell 2 rfl
        obtain ⟨qb, qo, rfl, hqb, hqc⟩ := (BB.out.below B2.out) (by omega)
        have h0 := hqc i hlt
        have OH := H2.out.alloc (.cells #[.bool (ac i)] 4)
        have O3 := hide (O2.out.alloc (.cells #[.bool (ac i)] 4))
        have BA : Hid (Below W.heap.size W (wc.alloc (.cells #[.bool (ac i)] 4))) := B2.out.alloc B2.out.size _
        clear hqb hqc O2 H2 B2
        go_wp2_with (at_builtin; refine wpList_append_own _ rfl _ _ 23 rfl W.heap.size 4 ib _ 1 1 Try.underlying23 b1' b2' b3' b4' rfl (by decide) vb (cnF l k i) _ rfl OH ⟨_, 0, none⟩ 1 1 [.bool (ac i)] rfl rfl ?c1 ?c2 ?c3 ?c4 ?c5 ?_)
        case c1 =>
          intro j u hj
          rw [addr_add]
          exact (Blk.new (vs := [.bool (ac i)]) (by simp [World.size_alloc])).cell j hj
        case c2 => intro u hu; simp at hu; rcases hu with rfl; rfl
        case c3 => unfold maxLen; omega
        case c4 => omega
        case c5 => exact BA.out.size
        intro u' we ho' hgr _
        have S1 : Hid (StI W we v' (cnF l k (i + 1)) (upd x (cnF l k i) (l i)) u' (cnF l k (i + 1)) (updB h' (cnF l k i) (ac i))) := by
          show StI _ _ _ _ _ _ _ _
          rw [CY.out]
          refine ⟨below_byS BA.out OH hgr (Nat.le_refl _) (Nat.le_refl _), own_grownP O3.out OH (by decide) hgr, ?_⟩
          rw [EVB.out]; exact ho'
        clear ho' hgr OH O3 BA EVB z2 h0 CY
        go_wp2_with fail
        go_roundg (m - i)
        case measure => exact hg2
        case rel => exact ⟨i + 1, _, _, _, _, rfl, rfl, by go_num, by omega, by omega, SL1, SA1, S1⟩
      have hltz : ¬ (i : Int) < (m : Int) := by omega
      obtain rfl : i = m := by omega
      have CB := cn_bound (l := l) (k := (k : Int)) i
      obtain ⟨pn, cn, rfl, hcn, hpn⟩ := own_srow S.out.own
      obtain ⟨ph, ch, rfl, -, hph⟩ := own_srow S.out.ownh
      have BI := hide S.out.below
      have T2 := hide (KS.out vn pn (cnF l k i) cn x wi hpn hcn (by omega))
      have E2 := hide (ER2.out k x (by omega) SL.out)
      have HH := hide hph.breads
      have EQ := hide (HEQ.out k x h' (by omega) SL.out SA.out)
      clear S KS HE KE HL SL SA ER2 A hph hpn hcn HEQ BB
      generalize cnF l k i = nn at *
      go_wp2_with fail
      refine T2.out.mono ?_
      rintro e wx ⟨hy, hz, hB⟩
      have BX : Hid (Below W.heap.size W wx) := BI.out.trans (hB.mono BI.out.size)
      obtain ⟨r1, d1, r2, d2, r3, d3, rfl, -, -, bb, -⟩ := hy E2.out
      rw [show (vn : Int).toNat = vn from Int.toNat_natCast vn] at *
      have H4 := hide ((HH.out.below hB).below ((Below.refl wx.heap.size wx).alloc (Nat.le_refl _) (.cells #[.int .i64 vn, .slice r1 nn d1, .slice r2 nn d2, .slice r3 vn d3] 26)))
      have R4 := hide (bb.below ((Below.refl wx.heap.size wx).alloc (Nat.le_refl _) (.cells #[.int .i64 vn, .slice r1 nn d1, .slice r2 nn d2, .slice r3 vn d3] 26)))
      have K4 := hide (sys_blk wx vn r1 nn d1 r2 nn d2 r3 vn d3)
      have B4 : Hid (Below W.heap.size W (wx.alloc (.cells #[.int .i64 vn, .slice r1 nn d1, .slice r2 nn d2, .slice r3 vn d3] 26))) := BX.out.alloc BX.out.size _
      have y2 := K4.out.cell 2 rfl
      clear hy hz hB T2 BI BX bb HH E2
      go_wp2_with fail
      generalize wx.alloc (.cells #[.int .i64 vn, .slice r1 nn d1, .slice r2 nn d2, .slice r3 vn d3] 26) = w4 at *
      generalize wx.heap.size = tc at *
      clear y2
      generalize acB vn nn x 3 = aq at *
      go_loopg [14] 14 (fun g3 vj wz => ∃ j : Nat, vj = .int .i64 (j : Int) ∧ j ≤ nn ∧ nn - j < g3 ∧ Hid (Below w4.heap.size w4 wz))
      case atStart => exact ⟨0, by go_num, by omega, by omega, Below.refl _ _⟩
      case round =>
        obtain ⟨wj, rfl⟩ : ∃ wj : World, wj = wr := ⟨_, rfl⟩
        obtain ⟨j, rfl, hj, hg3, BJ⟩ := hrel
        by_cases hlj : j < nn
        case neg =>
          have hjz : ¬ (j : Int) < (nn : Int) := by omega
          obtain rfl : j = nn := by omega
          have BH : Hid (Below W.heap.size W wj) := B4.out.trans (BJ.out.mono B4.out.size)
          clear H4 R4 K4 B4 BJ EQ
          go_wp2_with fail
          go_roundg (3 - k)
          case measure => exact hg
          case rel => exact ⟨k + 1, by go_num, by omega, by omega, BH⟩
        have hjz : (j : Int) < (nn : Int) := by omega
        have hj0 : (0 : Int) ≤ (j : Int) := by omega
        have z2 : wj.cell? ⟨tc, 2, none⟩ = some (.slice r2 nn d2) := (show Blk wj tc 26 (sysL vn r1 nn d1 r2 nn d2 r3 vn d3) from (BJ.out.block tc K4.out.lt).trans K4.out).cell 2 rfl
        obtain ⟨hb1, ho1, rfl, -, hc1⟩ := (H4.out.below BJ.out) (by omega)
        obtain ⟨hb2, ho2, rfl, -, hc2⟩ := (R4.out.below BJ.out) (by omega)
        have u1 := hc1 j hlj
        have u2 := hc2 j hlj
        rw [EQ.out j hlj] at u2
        generalize h' j = hv at *
        have BG : Hid (∀ q, Below w4.heap.size w4 (wj.drewN q)) := fun q => ⟨BJ.out.os, BJ.out.tape, BJ.out.output, BJ.out.size, BJ.out.block⟩
        clear hc1 hc2 H4 R4 K4 EQ
        cases hv
        all_goals
          go_wp2_with fail
          go_quiet (fail)
          have BH := hide (BG.out nq)
          clear BG BJ z2 u1 u2
          generalize wj.drewN nq = w9 at *
          go_wp2_with fail
          go_roundg (nn - j)
          case measure => exact hg3
          case rel => exact ⟨j + 1, by go_num, by omega, by omega, BH⟩
end Go.Proofs.Ytdoncogkepopiaa
