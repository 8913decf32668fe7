/- What the law ConstraintLeast runs, where Solve answers as the chapter asks; no other condition. -/
import Derived.Test.YtdoncogkepopiaaCoL5
namespace Go.Proofs.Ytdoncogkepopiaa
open Go.RowKit Go.Sort
set_option linter.unusedVariables false
set_option linter.unusedSimpArgs false

/-- Whether the first k constraints that are accepted are satisfied. -/
def alB (x : Nat → Int) (l : Nat → Cn) (ac : Nat → Bool) : Nat → Bool
  | 0 => true
  | k + 1 => alB x l ac k && (!ac k || satB x (l k))
theorem alB_all {x : Nat → Int} {l : Nat → Cn} {ac : Nat → Bool} : ∀ {m : Nat}, alB x l ac m = true → ∀ k, k < m → ac k = true → satB x (l k) = true
  | 0, _, k, hk, _ => absurd hk (Nat.not_lt_zero _)
  | m + 1, h, k, hk, ha => by
    simp only [alB, Bool.and_eq_true, Bool.or_eq_true, Bool.not_eq_true'] at h
    by_cases e : k = m
    · subst e
      rcases h.2 with q | q
      · rw [ha] at q; exact Bool.noConfusion q
      · exact q
    · exact alB_all h.1 k (by omega) ha
def x3F (t : Nat) (i : Nat) : Int := if i = 0 then (t : Int) % 10 else if i = 1 then (t : Int) / 10 % 10 else (t : Int) / 100
theorem x3_bd {t : Nat} (h : t < 1000) (i : Nat) : 0 ≤ x3F t i ∧ x3F t i ≤ 1048576 := by
  unfold x3F
  split
  · omega
  · split <;> omega
theorem al_least {t m : Nat} {l : Nat → Cn} {ac : Nat → Bool} {lv : Nat → Int} (ht : t < 1000) (hl : Lst 3 m l ac lv) (hok : ∀ k, k < m → okC (3 : Nat) (l k)) (h : alB (x3F t) l ac m = true) {i : Nat} (hi : i < 3) : lv i ≤ x3F t i :=
  hl.2 _ ⟨fun j _ => x3_bd ht j, fun k hk ha => (satB_iff (hok k hk).2.1).1 (alB_all h k hk ha)⟩ i hi
theorem least_err {m : Nat} {l : Nat → Cn} (hm : m ≤ 200) (hok : ∀ k, k < m → okC (3 : Nat) (l k) ∧ 1 ≤ (l k).st) : erS ((3 : Nat) : Int) m l = 0 ∧ Feas 3 m l (ac0 l) := by
  have hF : Feas 3 m l (ac0 l) := ⟨fun _ => 0, fun i _ => ⟨Int.le_refl _, by show (0 : Int) ≤ 1048576; omega⟩, fun k hk ha => by
    have := of_decide_eq_true (show decide ((l k).st = 0) = true from ha)
    have := (hok k hk).2
    omega⟩
  exact ⟨erS_ok (by omega) (by omega) (fun k hk => (hok k hk).1) hF, hF⟩
set_option maxRecDepth 100000 in
set_option maxHeartbeats 40000000 in
theorem clea_core (hS : KSo 10) (p0 : Option Addr) (n0 c0 : Nat) (f : Nat → Int) (w : World) (hnc : n0 ≤ c0) (hr : Reads w p0 n0 f) (hf : ∀ k, -9223372036854775808 ≤ f k ∧ f k ≤ 9223372036854775807) :
    Calls Try.prog 6 #[.slice p0 n0 c0] w fun e w' => e = .returned (.bool true) ∧ Below w.heap.size w w' := by
  have A := hide (fun w' => cawake_any hS w')
  have KS := hide hS
  have K0 := hide (New_any p0 n0 c0 w hnc (fun h => by obtain ⟨b, off, e, _⟩ := hr h; exact ⟨_, e⟩))
  obtain ⟨it, i1, i2, i3, i4⟩ := info_partsU info_cnB
  clear hS
  go_enter Try.func6, Try.ntmps6
  go_wp2_with fail
  refine K0.out.mono ?_
  rintro e wa ⟨sb, m0, c', rfl, G1, hsb, ⟨hm1, hm2⟩, B1⟩
  have S1 : Hid (SR (base0C w) wa sb p0 m0 c' f) := ⟨base0C_grew G1.1, hsb, fun h0 => by
    obtain ⟨b, off, e, hc⟩ := hr (by omega)
    exact ⟨b, off, e, fun k hk => hc k (by omega)⟩, hm2, hf, 0, Nat.zero_le _, B1⟩
  clear B1 K0 hr hnc G1 hsb
  have KR := hide (N_any (base0C w) wa sb m0 c' p0 f 8 S1.out (by decide) (by decide))
  have SB : Hid (∀ W, SR (base0C w) W sb p0 m0 c' f → sb < W.heap.size) := fun W H => by obtain ⟨t, _, k⟩ := H.src; exact k.lt
  clear S1
  go_wp2_with fail
  refine KR.out.mono ?_
  rintro e wj ⟨y, rfl, ⟨y1, y2⟩, -, SS⟩
  obtain ⟨i0, rfl⟩ : ∃ i0 : Nat, y = (i0 : Int) := ⟨y.toNat, by omega⟩
  have hi2 : i0 ≤ 7 := by omega
  have L0 : Hid (Lq (base0C w) wj wj sb p0 m0 c' f 40 5 (.slice none 0 0) 0 (flat 0 5 (cnC (fun _ => ⟨0, 0, 0, 0, 0⟩)))) := ⟨SS, But.refl _ _, World.ownsRow_nil _ _ _ _, SB.out _ SS⟩
  clear SS KR y1 y2 SB hm1 hm2
  go_wp2_with fail
  go_loopg [4, 5] 102 (fun gh va vi wr => ∃ (i n : Nat) (v : Value) (x : Nat → Cn), vi = .int .i64 (i : Int) ∧ v = va ∧ i + n = i0 ∧ i < gh ∧ Hid (∀ j, j < n → okC (3 : Nat) (x j) ∧ 1 ≤ (x j).st) ∧ Hid (Lq (base0C w) wj wr sb p0 m0 c' f 40 5 v n (flat n 5 (cnC x))))
  case atStart => exact ⟨i0, 0, _, _, by go_num, rfl, by omega, by omega, fun j hj => absurd hj (by omega), L0⟩
  case round =>
    clear L0
    obtain ⟨wo, rfl⟩ : ∃ wo : World, wo = wr := ⟨_, rfl⟩
    obtain ⟨i, n, va, x, rfl, rfl, hi, hg, HX, S⟩ := hrel
    by_cases hlt : 0 < i
    case pos =>
      have hltz : (0 : Int) < (i : Int) := by omega
      obtain ⟨i', rfl⟩ : ∃ i', i = i' + 1 := ⟨i - 1, by omega⟩
      have hi1 : ((i' + 1 : Nat) : Int) - 1 = (i' : Int) := by omega
      clear A KS
      have KA := hide (Range_neg (base0C w) wo sb m0 c' p0 f (-1) (2) S.out.sr (by decide) (by decide) (by decide))
      go_wp2_with fail
      refine KA.out.mono ?_
      rintro e w1 ⟨a, rfl, ⟨a1, a2⟩, q, SS⟩
      have L1 := hide (S.out.but q SS)
      clear q SS KA S
      have KB := hide (Range_neg (base0C w) w1 sb m0 c' p0 f (-1) (2) L1.out.sr (by decide) (by decide) (by decide))
      go_wp2_with fail
      refine KB.out.mono ?_
      rintro e w2 ⟨b, rfl, ⟨b1, b2⟩, q, SS⟩
      have L2 := hide (L1.out.but q SS)
      clear q SS KB L1
      have KC := hide (N_any (base0C w) w2 sb m0 c' p0 f 3 L2.out.sr (by decide) (by decide))
      go_wp2_with fail
      refine KC.out.mono ?_
      rintro e w3 ⟨r, rfl, ⟨r1, r2⟩, q, SS⟩
      have L3 := hide (L2.out.but q SS)
      clear q SS KC L2
      have KD := hide (Range_neg (base0C w) w3 sb m0 c' p0 f (1) (3) L3.out.sr (by decide) (by decide) (by decide))
      go_wp2_with fail
      refine KD.out.mono ?_
      rintro e w4 ⟨st, rfl, ⟨st1, st2⟩, q, SS⟩
      have L4 := hide (L3.out.but q SS)
      clear q SS KD L3
      have KE := hide (Range_neg (base0C w) w4 sb m0 c' p0 f (-4) (4) L4.out.sr (by decide) (by decide) (by decide))
      go_wp2_with fail
      refine KE.out.mono ?_
      rintro e w5 ⟨cc, rfl, ⟨cc1, cc2⟩, q, SS⟩
      have L5 := hide (L4.out.but q SS)
      clear q SS KE L4
      have ev : flat (n + 1) 5 (cnC (upd x n ⟨a, b, r, cc, st⟩)) = flat n 5 (cnC x) ++ [.int .i64 a, .int .i64 b, .int .i64 r, .int .i64 cc, .int .i64 st] := by
        rw [flat_succ]
        congr 1
        · exact flat_congr fun i' hi' j => by
            have : upd x n ⟨a, b, r, cc, st⟩ i' = x i' := by simp [upd, Nat.ne_of_lt hi']
            unfold cnC; rw [this]
        · simp [upd, cnC, List.range_succ]
      have EV := hide ev
      have NO : Hid (∀ j, j < n + 1 → okC (3 : Nat) (upd x n ⟨a, b, r, cc, st⟩ j) ∧ 1 ≤ (upd x n ⟨a, b, r, cc, st⟩ j).st) := fun j hj => by
        by_cases h : j = n
        · subst h
          simp only [upd, if_true]
          refine ⟨⟨⟨⟨?_, ?_⟩, ?_, ?_⟩, ⟨?_, ?_⟩, ⟨?_, ?_⟩, ?_, ?_⟩, ?_⟩ <;> (try dsimp only) <;> omega
        · simp only [upd, if_neg h]; exact HX.out j (by omega)
      have LG := hide (L5.out.grew ((Grew.refl _).alloc (.cells #[.int .i64 a, .int .i64 b, .int .i64 r, .int .i64 cc, .int .i64 st] 40)))
      have OO := LG.out.own
      have OS := LG.out.fr.size
      clear ev L5 HX
      go_wp2_with (at_builtin; refine wpList_append_drawn _ rfl _ _ 22 rfl wj.heap.size 40 it _ 5 40 Try.underlying22 i1 i2 i3 i4 rfl (by decide) va n _ rfl OO ⟨_, 0, none⟩ 1 1 [.int .i64 a, .int .i64 b, .int .i64 r, .int .i64 cc, .int .i64 st] rfl (by decide) rfl ?c1 ?c2 ?c3 ?c4 ?c5 ?_)
      case c1 =>
        intro j u hj
        rw [addr_add]
        exact (Blk.new (vs := [.int .i64 a, .int .i64 b, .int .i64 r, .int .i64 cc, .int .i64 st]) (by simp [World.size_alloc])).cell j hj
      case c2 => intro u hu; simp at hu; rcases hu with rfl | rfl | rfl | rfl | rfl <;> rfl
      case c3 => unfold maxLen; omega
      case c4 => omega
      case c5 => exact OS
      intro v' wc ho' hgr hd
      have L6 : Hid (Lq (base0C w) wj wc sb p0 m0 c' f 40 5 v' (n + 1) (flat (n + 1) 5 (cnC (upd x n ⟨a, b, r, cc, st⟩)))) := by
        show Lq _ _ _ _ _ _ _ _ _ _ _ _ _
        rw [EV.out]; exact LG.out.appended ho' hgr hd
      clear ho' hgr hd LG OO EV OS
      go_wp2_with fail
      go_roundg (i' + 1)
      case measure => omega
      case rel => exact ⟨i', n + 1, _, _, by go_num, rfl, by omega, by omega, NO, L6⟩
    have hltz : ¬ (0 : Int) < (i : Int) := by omega
    obtain rfl : i0 = n := by omega
    obtain ⟨p, c, rfl, hc, hp⟩ := own_srow S.out.own
    have B0 : Hid (Below w.heap.size w wo) := base0C_below S.out.sr.g
    have T1 := hide (KS.out 3 p i0 c x wo hp hc (by omega))
    obtain ⟨e0, hF⟩ := least_err (m := i0) (by omega) HX.out
    have E0 : Hid (erS 3 i0 x = 0) := e0
    have HP := hide hp
    have HL : Hid (∀ k, k < i0 → okC (3 : Nat) (x k)) := fun k hk => (HX.out k hk).1
    have LST := hide (lvF_spec (acB_feas hF 3))
    clear S hp KS HX e0 hF i1 i2 i3 i4 hi hg hlt
    go_wp2_with fail
    refine T1.out.mono ?_
    rintro e wd ⟨hy, -, hB⟩
    have BD : Hid (Below w.heap.size w wd) := B0.out.trans (hB.mono B0.out.size)
    have HQ := hide (HP.out.below hB)
    clear T1 hB HP B0
    obtain ⟨q1, c1, q2, c2, q3, c3, rfl, -, s1, b1, x1⟩ := hy E0.out
    rw [show (3 : Int).toNat = 3 from rfl] at *
    have BE : Hid (Below w.heap.size w (wd.alloc (.cells #[.int .i64 3, .slice q1 i0 c1, .slice q2 i0 c2, .slice q3 3 c3] 26))) := BD.out.alloc BD.out.size _
    have LE := hide ((Below.refl wd.heap.size wd).alloc (Nat.le_refl _) (.cells #[.int .i64 3, .slice q1 i0 c1, .slice q2 i0 c2, .slice q3 3 c3] 26))
    have KE := hide (sys_blk wd 3 q1 i0 c1 q2 i0 c2 q3 3 c3)
    have HE := hide (HQ.out.below LE.out)
    have BB := hide (b1.below LE.out)
    have XX := hide (x1.below LE.out)
    have y0 := KE.out.cell 0 rfl
    have y1 := KE.out.cell 1 rfl
    have y2 := KE.out.cell 2 rfl
    have y3 := KE.out.cell 3 rfl
    clear hy HQ BD LE s1 b1 x1 E0
    go_wp2_with fail
    generalize wd.alloc (.cells #[.int .i64 3, .slice q1 i0 c1, .slice q2 i0 c2, .slice q3 3 c3] 26) = W at *
    generalize wd.heap.size = tb at *
    generalize lvF 3 i0 x (acB 3 i0 x 3) = lv at *
    generalize acB 3 i0 x 3 = ac at *
    clear y0 y1 y2 y3
    go_loopg [8] 1002 (fun g1 vk wr => ∃ t : Nat, vk = .int .i64 (t : Int) ∧ t ≤ 1000 ∧ 1000 - t < g1 ∧ Hid (Below W.heap.size W wr))
    case atStart => exact ⟨0, by go_num, by omega, by omega, Below.refl _ _⟩
    case round =>
      obtain ⟨wo, rfl⟩ : ∃ wo : World, wo = wr := ⟨_, rfl⟩
      obtain ⟨t, rfl, ht, hg, B⟩ := hrel
      by_cases hlt : t < 1000
      case neg =>
        have hltz : ¬ (t : Int) < 1000 := by omega
        clear HE BB XX KE LST HL
        go_wp2_with fail
        refine (A.out _).mono ?_
        rintro e w4 ⟨rfl, h⟩
        have B5 : Hid (Below w.heap.size w w4) := BE.out.trans ((B.out.trans (h.mono B.out.size)).mono BE.out.size)
        clear h
        go_wp2_with fail
        go_ret
        exact ⟨rfl, B5.out⟩
      have hltz : (t : Int) < 1000 := by omega
      go_wp2_with fail
      have XB : Hid (Blk (wo.alloc (.cells #[.int .i64 ((t : Int) % 10), .int .i64 ((t : Int) / 10 % 10), .int .i64 ((t : Int) / 100)] 3)) wo.heap.size 3 [.int .i64 (x3F t 0), .int .i64 (x3F t 1), .int .i64 (x3F t 2)]) := Blk.new rfl
      have B5 : Hid (Below W.heap.size W (wo.alloc (.cells #[.int .i64 ((t : Int) % 10), .int .i64 ((t : Int) / 10 % 10), .int .i64 ((t : Int) / 100)] 3))) := B.out.alloc B.out.size _
      clear B
      generalize wo.alloc (.cells #[.int .i64 ((t : Int) % 10), .int .i64 ((t : Int) / 10 % 10), .int .i64 ((t : Int) / 100)] 3) = w5 at *
      generalize wo.heap.size = xb at *
      have LEA : Hid (alB (x3F t) x ac i0 = true → lv 0 ≤ x3F t 0 ∧ lv 1 ≤ x3F t 1 ∧ lv 2 ≤ x3F t 2) := fun h => ⟨al_least hlt LST.out HL.out h (by decide), al_least hlt LST.out HL.out h (by decide), al_least hlt LST.out HL.out h (by decide)⟩
      have XD : Hid (∀ i, 0 ≤ x3F t i ∧ x3F t i ≤ 1048576) := fun i => x3_bd hlt i
      have XRD : Hid (∀ W', Below w5.heap.size w5 W' → Reads W' (some ⟨xb, 0, none⟩) 3 (x3F t)) := fun W' h _ => ⟨xb, 0, rfl, fun k hk => by
        have T : Blk W' xb 3 [.int .i64 (x3F t 0), .int .i64 (x3F t 1), .int .i64 (x3F t 2)] := (h.block xb XB.out.lt).trans XB.out
        rw [Nat.zero_add]
        rcases (show k = 0 ∨ k = 1 ∨ k = 2 by omega) with rfl | rfl | rfl
        · exact T.cell 0 rfl
        · exact T.cell 1 rfl
        · exact T.cell 2 rfl⟩
      clear LST
      generalize x3F t = xv at *
      go_loopg [10, 11] 9 (fun g2 va vk wq => ∃ k : Nat, va = .bool (alB xv x ac k) ∧ vk = .int .i64 (k : Int) ∧ k ≤ i0 ∧ i0 - k < g2 ∧ Hid (Below w5.heap.size w5 wq))
      case atStart => exact ⟨0, by first | rfl | go_num, by go_num, by omega, by omega, Below.refl _ _⟩
      case round =>
        obtain ⟨wq, rfl⟩ : ∃ wq : World, wq = wr := ⟨_, rfl⟩
        obtain ⟨k, rfl, rfl, hk, hg2, B⟩ := hrel
        have BW : Hid (Below W.heap.size W wq) := B5.out.trans (B.out.mono B5.out.size)
        have HK : Hid (Blk wq tb 26 (sysL 3 q1 i0 c1 q2 i0 c2 q3 3 c3)) := (BW.out.block tb KE.out.lt).trans KE.out
        by_cases hlk : k < i0
        case neg =>
          have hlkz : ¬ (k : Int) < (i0 : Int) := by omega
          obtain rfl : k = i0 := by omega
          go_wp2_with fail
          obtain ⟨vb, vo, rfl, hvc⟩ := (XX.out.below BW.out) (by decide)
          have hvb : vb < wq.heap.size := World.block_lt_of_cell? _ _ (hvc 0 (by decide))
          have hxb : xb < wq.heap.size := Nat.lt_of_lt_of_le XB.out.lt B.out.size
          have TX : Blk wq xb 3 [.int .i64 (xv 0), .int .i64 (xv 1), .int .i64 (xv 2)] := (B.out.block xb XB.out.lt).trans XB.out
          have z3 := fun n os => cell_grown (w := wq) (a := ⟨tb, 3, none⟩) HK.out.lt (HK.out.cell 3 rfl) n os
          have g0 := fun n os => cell_grown (w := wq) (a := ⟨xb, 0, none⟩) hxb (TX.cell 0 rfl) n os
          have g1 := fun n os => cell_grown (w := wq) (a := ⟨xb, 1, none⟩) hxb (TX.cell 1 rfl) n os
          have g2' := fun n os => cell_grown (w := wq) (a := ⟨xb, 2, none⟩) hxb (TX.cell 2 rfl) n os
          have h0 : ∀ n os, (grow (wq.drewN n) os).cell? ⟨vb, vo, none⟩ = some (.int .i64 (lv 0)) := fun n os => cell_grown (w := wq) (a := ⟨vb, vo, none⟩) hvb (hvc 0 (by decide)) n os
          have h1 := fun n os => cell_grown (w := wq) (a := ⟨vb, vo + 1, none⟩) hvb (hvc 1 (by decide)) n os
          have h2 := fun n os => cell_grown (w := wq) (a := ⟨vb, vo + 2, none⟩) hvb (hvc 2 (by decide)) n os
          have hmx : Try.prog.follows .mixedOrders = true := by kernel_rfl
          cases hal : alB xv x ac k with
          | false =>
            clear LEA XD XRD hvc TX HE BB XX KE HL A BE HK
            refine wp_region_calm (by kernel_rfl) (by kernel_rfl) ?_
            iterate 2 (refine lex_calm rfl (by rfl) (fun K hK => ?_); go_simp; first | (refine hK _ ?_; clear hK K) | (apply Exists.intro; refine ⟨fun _ _ => ?_, hK _ ?_⟩; fail))
            iterate 28 ((with_reducible refine lex_skip ?_ ?_ ?_); exact rfl; kernel_rfl)
            iterate 1 ((with_reducible refine lex_calm ?_ ?_ ?_); exact rfl; kernel_rfl; intro K hK; go_simp; first | (refine hK _ ?_; clear hK K) | (apply Exists.intro; refine ⟨fun _ _ => ?_, hK _ ?_⟩; fail))
            refine lex_nil ?_
            intro w9 G9
            have BH : Hid (Below W.heap.size W w9) := BW.out.trans (G9.1.mono BW.out.size)
            clear z3 g0 g1 g2' h0 h1 h2 G9 B BW B5 XB
            go_wp2_with fail
            go_roundg (1000 - t)
            case measure => exact hg
            case rel => exact ⟨t + 1, by go_num, by omega, by omega, BH⟩
          | true =>
            obtain ⟨l0, l1, l2⟩ := LEA.out hal
            have d0 : decide (xv 0 < lv 0) = false := decide_eq_false (by omega)
            have d1 : decide (xv 1 < lv 1) = false := decide_eq_false (by omega)
            have d2 : decide (xv 2 < lv 2) = false := decide_eq_false (by omega)
            clear LEA XD XRD hvc TX HE BB XX KE HL A BE HK l0 l1 l2
            generalize xv 0 = xv0 at *
            generalize xv 1 = xv1 at *
            generalize xv 2 = xv2 at *
            generalize lv 0 = lv0 at *
            generalize lv 1 = lv1 at *
            generalize lv 2 = lv2 at *
            refine wp_region_calm (by kernel_rfl) (by kernel_rfl) ?_
            iterate 31 (refine lex_calm rfl (by rfl) (fun K hK => ?_); go_simp; first | (refine hK _ ?_; clear hK K) | (apply Exists.intro; refine ⟨fun _ _ => ?_, hK _ ?_⟩; fail))
            refine lex_nil ?_
            intro w9 G9
            have BH : Hid (Below W.heap.size W w9) := BW.out.trans (G9.1.mono BW.out.size)
            clear z3 g0 g1 g2' h0 h1 h2 G9 B BW B5 XB
            go_wp2_with fail
            go_roundg (1000 - t)
            case measure => exact hg
            case rel => exact ⟨t + 1, by go_num, by omega, by omega, BH⟩
        have hlkz : (k : Int) < (i0 : Int) := by omega
        have hk0 : (0 : Int) ≤ (k : Int) := by omega
        have E1 : Hid (alB xv x ac (k + 1) = (alB xv x ac k && (!ac k || satB xv (x k)))) := rfl
        obtain ⟨pb, po, rfl, hpb, hpc⟩ := (HE.out.below BW.out) (by omega)
        obtain ⟨qb, qo, rfl, hqb, hqc⟩ := (BB.out.below BW.out) (by omega)
        have z2 := HK.out.cell 2 rfl
        have g0 : wq.cell? ⟨pb, po + k * 5, none⟩ = some (.int .i64 (x k).a) := hpc k hlk 0 (by decide)
        have g1 : wq.cell? ⟨pb, po + k * 5 + 1, none⟩ = some (.int .i64 (x k).b) := hpc k hlk 1 (by decide)
        have g2' : wq.cell? ⟨pb, po + k * 5 + 2, none⟩ = some (.int .i64 (x k).rel) := hpc k hlk 2 (by decide)
        have g3 : wq.cell? ⟨pb, po + k * 5 + 3, none⟩ = some (.int .i64 (x k).cc) := hpc k hlk 3 (by decide)
        have g4 : wq.cell? ⟨pb, po + k * 5 + 4, none⟩ = some (.int .i64 (x k).st) := hpc k hlk 4 (by decide)
        have h0 := hqc k hlk
        have SA := hide (rSat_any (some ⟨xb, 0, none⟩) 3 3 xv (x k) wq (XRD.out wq B.out) (fun i _ => XD.out i) (HL.out k hlk))
        generalize alB xv x ac k = al0 at *
        generalize satB xv (x k) = sv at *
        generalize ac k = aj at *
        clear hpc hqc hpb hqb LEA XD XRD HE BB XX KE HL A BE HK BW
        cases al0
        · have E2 : Hid (alB xv x ac (k + 1) = false) := by
            show _ = _
            rw [E1.out, Bool.false_and]
          clear E1 SA
          go_wp2_with fail
          go_roundg (i0 - k)
          case measure => exact hg2
          case rel => exact ⟨k + 1, by rw [E2.out], by go_num, by omega, by omega, B⟩
        · cases aj
          · have E2 : Hid (alB xv x ac (k + 1) = true) := by
              show _ = _
              rw [E1.out, Bool.not_false, Bool.true_or, Bool.true_and]
            clear E1 SA
            go_wp2_with fail
            go_roundg (i0 - k)
            case measure => exact hg2
            case rel => exact ⟨k + 1, by rw [E2.out], by go_num, by omega, by omega, B⟩
          · have E2 : Hid (alB xv x ac (k + 1) = sv) := by
              show _ = _
              rw [E1.out, Bool.not_true, Bool.false_or, Bool.true_and]
            clear E1
            go_wp2_with fail
            refine SA.out.mono ?_
            rintro e w7 ⟨rfl, h, -⟩
            have B7 : Hid (Below w5.heap.size w5 w7) := B.out.trans (h.mono B.out.size)
            clear SA h z2 g0 g1 g2' g3 g4 h0 B
            go_wp2_with fail
            go_roundg (i0 - k)
            case measure => exact hg2
            case rel => exact ⟨k + 1, by rw [E2.out], by go_num, by omega, by omega, B7⟩
end Go.Proofs.Ytdoncogkepopiaa
