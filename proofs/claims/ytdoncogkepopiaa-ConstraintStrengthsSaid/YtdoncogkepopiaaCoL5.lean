/- What the law ConstraintHolds runs, where Solve answers as the chapter asks; no other condition. -/
import Derived.Test.YtdoncogkepopiaaCoL3
import Derived.Test.YtdoncogkepopiaaMix
namespace Go.Proofs.Ytdoncogkepopiaa
open Go.RowKit Go.Sort
set_option linter.unusedVariables false
set_option linter.unusedSimpArgs false

theorem erS_valid {n m : Nat} {l : Nat → Cn} (h : n ≤ 64) (h2 : ¬ 200 < m) (h3 : ∀ k, k < m → okC n (l k)) : (erS (n : Int) m l = 0 ∧ Feas n m l (ac0 l)) ∨ erS (n : Int) m l = 13 := by
  by_cases q : Feas n m l (ac0 l)
  · exact Or.inl ⟨erS_ok h h2 h3 q, q⟩
  · exact Or.inr (erS_conf h h2 h3 q)
set_option maxRecDepth 100000 in
set_option maxHeartbeats 20000000 in
theorem chol_core (hS : KSo 10) (p0 : Option Addr) (n0 c0 : Nat) (f : Nat → Int) (w : World) (hnc : n0 ≤ c0) (hr : Reads w p0 n0 f) (hf : ∀ k, -9223372036854775808 ≤ f k ∧ f k ≤ 9223372036854775807) :
    Calls Try.prog 5 #[.slice p0 n0 c0] w fun e w' => e = .returned (.bool true) ∧ Below w.heap.size w w' := by
  have A := hide (fun w' => cawake_any hS w')
  have KS := hide hS
  have K0 := hide (New_any p0 n0 c0 w hnc (fun h => by obtain ⟨b, off, e, _⟩ := hr h; exact ⟨_, e⟩))
  clear hS
  go_enter Try.func5, Try.ntmps5
  go_wp2_with fail
  refine K0.out.mono ?_
  rintro e wa ⟨sb, m0, c', rfl, G1, hsb, ⟨hm1, hm2⟩, B1⟩
  have S1 : Hid (SR (base0C w) wa sb p0 m0 c' f) := ⟨base0C_grew G1.1, hsb, fun h0 => by
    obtain ⟨b, off, e, hc⟩ := hr (by omega)
    exact ⟨b, off, e, fun k hk => hc k (by omega)⟩, hm2, hf, 0, Nat.zero_le _, B1⟩
  clear B1 K0 hr hnc G1 hsb
  have KV := hide (Range_neg (base0C w) wa sb m0 c' p0 f 1 6 S1.out (by decide) (by decide) (by decide))
  go_wp2_with fail
  refine KV.out.mono ?_
  rintro e wb ⟨vars, rfl, ⟨v1, v2⟩, -, SS⟩
  obtain ⟨vn, rfl⟩ : ∃ vn : Nat, vars = (vn : Int) := ⟨vars.toNat, by omega⟩
  have K1 := hide (cbuild_any (base0C w) wb sb m0 c' vn 14 p0 f SS ⟨by omega, by omega⟩ (by decide))
  clear SS KV S1
  go_wp2_with fail
  refine K1.out.mono ?_
  rintro e wc ⟨v, m, l, rfl, hm, hl, O1, -, S2⟩
  obtain ⟨p, c, rfl, hc, hp⟩ := own_srow O1
  have B0 : Hid (Below w.heap.size w wc) := base0C_below S2.g
  have T1 := hide (KS.out vn p m c l wc hp hc (by omega))
  have EV := hide (erS_valid (n := vn) (by omega) (by omega) hl)
  have HP := hide hp
  have HL := hide hl
  have hvn : 1 ≤ vn ∧ vn ≤ 6 := by omega
  obtain ⟨hvn1, hvn2⟩ := hvn
  clear O1 S2 K1 hp hm1 hm2 KS hl v1 v2
  go_wp2_with fail
  refine T1.out.mono ?_
  rintro e wd ⟨hy, hz, hB⟩
  have BD : Hid (Below w.heap.size w wd) := B0.out.trans (hB.mono B0.out.size)
  have HQ := hide (HP.out.below hB)
  clear T1 hB HP B0
  rcases EV.out with ⟨e0, hF⟩ | e0
  case inr =>
    have hz' := hz (by rw [e0]; decide)
    rw [e0] at hz'
    subst hz'
    have BE : Hid (Below w.heap.size w (wd.alloc (.cells #[.int .i64 0, .slice none 0 0, .slice none 0 0, .slice none 0 0] 26))) := BD.out.alloc BD.out.size _
    have y0 := sys_blk wd 0 none 0 0 none 0 0 none 0 0
    clear hy hz e0 EV HQ BD
    go_wp2_with fail
    refine (A.out _).mono ?_
    rintro e w4 ⟨rfl, h⟩
    have B5 : Hid (Below w.heap.size w w4) := BE.out.trans (h.mono BE.out.size)
    clear h BE y0
    go_wp2_with fail
    go_ret
    exact ⟨rfl, B5.out⟩
  obtain ⟨q1, c1, q2, c2, q3, c3, rfl, -, s1, b1, x1⟩ := hy e0
  rw [show (vn : Int).toNat = vn from Int.toNat_natCast vn] at *
  have BE : Hid (Below w.heap.size w (wd.alloc (.cells #[.int .i64 vn, .slice q1 m c1, .slice q2 m c2, .slice q3 vn c3] 26))) := BD.out.alloc BD.out.size _
  have LE := hide ((Below.refl wd.heap.size wd).alloc (Nat.le_refl _) (.cells #[.int .i64 vn, .slice q1 m c1, .slice q2 m c2, .slice q3 vn c3] 26))
  have KE := hide (sys_blk wd vn q1 m c1 q2 m c2 q3 vn c3)
  have HE := hide (HQ.out.below LE.out)
  have BB := hide (b1.below LE.out)
  have XX := hide (x1.below LE.out)
  have LST := hide (lvF_spec (acB_feas hF 3))
  have IFF : Hid (∀ k, k < m → (satB (lvF vn m l (acB vn m l 3)) (l k) = acB vn m l 3 k)) := fun k hk => by
    have ok := HL.out k hk
    have h1 := satB_iff (x := lvF vn m l (acB vn m l 3)) (c := l k) ok.2.1
    have h2 := acB_iff (s := 3) hF hk ok.2.2.2.1 (by have := ok.2.2.2.2; omega)
    show _ = _
    cases q : acB vn m l 3 k with
    | true => exact h1.2 (h2.2 q)
    | false =>
      cases q2 : satB (lvF vn m l (acB vn m l 3)) (l k) with
      | false => rfl
      | true =>
        have := h2.1 (h1.1 q2)
        rw [q] at this; exact this.symm
  have REQ : Hid (∀ k, k < m → (l k).st = 0 → acB vn m l 3 k = true) := fun k hk h => acB_to (s := 0) (decide_eq_true h) (by omega)
  have y0 := KE.out.cell 0 rfl
  have y1 := KE.out.cell 1 rfl
  have y2 := KE.out.cell 2 rfl
  have y3 := KE.out.cell 3 rfl
  clear hy hz HQ BD LE s1 b1 x1 EV hF e0
  go_wp2_with fail
  generalize wd.alloc (.cells #[.int .i64 vn, .slice q1 m c1, .slice q2 m c2, .slice q3 vn c3] 26) = W at *
  generalize wd.heap.size = tb at *
  generalize lvF vn m l (acB vn m l 3) = lv at *
  generalize acB vn m l 3 = ac at *
  go_loopg [8] 8 (fun g1 vk wr => ∃ k : Nat, vk = .int .i64 (k : Int) ∧ k ≤ vn ∧ vn - k < g1 ∧ wr = W)
  case atStart => exact ⟨0, by go_num, by omega, by omega, rfl⟩
  case round =>
    obtain ⟨k, rfl, hk, hg, rfl⟩ := hrel
    by_cases hlk : k < vn
    · have hlkz : (k : Int) < (vn : Int) := by omega
      have hk0 : (0 : Int) ≤ (k : Int) := by omega
      obtain ⟨xb, xo, rfl, hxc⟩ := XX.out (by omega)
      have x0 := hxc k hlk
      have xbd := LST.out.1.1 k hlk
      generalize lv k = y at *
      obtain ⟨xa, xz⟩ := xbd
      have d1 : decide (y < 0) = false := decide_eq_false (by omega)
      have d2 : decide (1048576 < y) = false := decide_eq_false (by omega)
      clear hxc XX LST IFF REQ
      go_wp2_with fail
      go_roundg (vn - k)
      case measure => exact hg
      case rel => exact ⟨k + 1, by go_num, by omega, by omega, rfl⟩
    have hlkz : ¬ (k : Int) < (vn : Int) := by omega
    obtain rfl : k = vn := by omega
    go_wp2_with fail
    obtain ⟨W0, hW0⟩ : ∃ W0 : World, W0 = wr := ⟨_, rfl⟩
    rw [← hW0] at BE KE HE BB XX ⊢
    clear y0 y1 y2 y3 hW0
    go_loopg [9] 16 (fun g1 vk wq => ∃ j : Nat, vk = .int .i64 (j : Int) ∧ j ≤ m ∧ m - j < g1 ∧ Hid (Below W0.heap.size W0 wq))
    case atStart => exact ⟨0, by go_num, by omega, by omega, Below.refl _ _⟩
    case round =>
      obtain ⟨wo, rfl⟩ : ∃ wo : World, wo = wr := ⟨_, rfl⟩
      obtain ⟨j, rfl, hj, hg2, B⟩ := hrel
      by_cases hlj : j < m
      · have hljz : (j : Int) < (m : Int) := by omega
        have hj0 : (0 : Int) ≤ (j : Int) := by omega
        have HS := HE.out.below B.out
        have HBB := BB.out.below B.out
        have HX := XX.out.below B.out
        have HK : Blk wo tb 26 (sysL k q1 m c1 q2 m c2 q3 k c3) := (B.out.block tb KE.out.lt).trans KE.out
        obtain ⟨pb, po, rfl, hpb, hpc⟩ := HS (by omega)
        obtain ⟨qb, qo, rfl, hqb, hqc⟩ := HBB (by omega)
        have hmx : Try.prog.follows .mixedOrders = true := by kernel_rfl
        have z2 := fun n os => cell_grown (w := wo) (a := ⟨tb, 2, none⟩) HK.lt (HK.cell 2 rfl) n os
        have z3 := fun n os => cell_grown (w := wo) (a := ⟨tb, 3, none⟩) HK.lt (HK.cell 3 rfl) n os
        have g0 := fun n os => cell_grown (w := wo) (a := ⟨pb, po + j * 5, none⟩) hpb (hpc j hlj 0 (by decide)) n os
        have g1 := fun n os => cell_grown (w := wo) (a := ⟨pb, po + j * 5 + 1, none⟩) hpb (hpc j hlj 1 (by decide)) n os
        have g2 := fun n os => cell_grown (w := wo) (a := ⟨pb, po + j * 5 + 2, none⟩) hpb (hpc j hlj 2 (by decide)) n os
        have g3 := fun n os => cell_grown (w := wo) (a := ⟨pb, po + j * 5 + 3, none⟩) hpb (hpc j hlj 3 (by decide)) n os
        have g4 := fun n os => cell_grown (w := wo) (a := ⟨pb, po + j * 5 + 4, none⟩) hpb (hpc j hlj 4 (by decide)) n os
        have h0 := fun n os => cell_grown (w := wo) (a := ⟨qb, qo + j, none⟩) hqb (hqc j hlj) n os
        have SA : Hid (∀ n os, Calls Try.prog 17 #[.slice q3 k c3, .agg #[.int .i64 (l j).a, .int .i64 (l j).b, .int .i64 (l j).rel, .int .i64 (l j).cc, .int .i64 (l j).st]] (grow (wo.drewN n) os) fun e w' => e = .returned (.bool (ac j)) ∧ Grew (grow (wo.drewN n) os) w') := fun n os => by
          have := rSat_any q3 k c3 lv (l j) (grow (wo.drewN n) os) (HX.below (below_grown wo n os)) LST.out.1.1 (HL.out j hlj)
          rw [IFF.out j hlj] at this
          exact this.mono fun e w' h => ⟨h.1, by obtain ⟨q, os', h⟩ := h.2.2; rw [h]; exact ((Grew.refl _).drewN q).grow os'⟩
        have SB : Hid (∀ n os, Calls Try.prog 17 #[.slice q3 k c3, .agg #[.int .i64 (l j).a, .int .i64 (l j).b, .int .i64 (l j).rel, .int .i64 (l j).cc, .int .i64 (l j).st]] (grow (wo.drewN n) os) fun e w' => e = .returned (.bool (ac j)) ∧ ∃ q os', w' = grow ((grow (wo.drewN n) os).drewN q) os') := fun n os => by
          have := rSat_any q3 k c3 lv (l j) (grow (wo.drewN n) os) (HX.below (below_grown wo n os)) LST.out.1.1 (HL.out j hlj)
          rw [IFF.out j hlj] at this
          exact this.mono fun e w' h => ⟨h.1, h.2.2⟩
        have RQ := hide (REQ.out j hlj)
        dsimp only [cnC] at g0 g1 g2 g3 g4
        generalize ac j = aj at *
        generalize (l j).a = la at *
        generalize (l j).b = lb at *
        generalize (l j).rel = lr at *
        generalize (l j).cc = lc at *
        generalize (l j).st = ls at *
        have BG := hide (fun n os => B.out.trans ((below_grown wo n os).mono B.out.size))
        clear HS HBB HX HK hpc hqc hpb hqb
        have OR : (aj = true) ∨ (aj = false ∧ ¬ ls = 0) := by
          cases haj : aj with
          | true => exact Or.inl rfl
          | false => exact Or.inr ⟨rfl, fun h => by have := RQ.out h; rw [haj] at this; exact Bool.noConfusion this⟩
        clear RQ
        by_cases hls : ls = 0
        · have d0 : (ls == 0) = true := by simpa using hls
          have haj : aj = true := by
            rcases OR with h | ⟨_, h⟩
            · exact h
            · exact absurd hls h
          subst haj
          clear OR hls
          go_wp2_with fail
          go_quiet_grown ((go_at_call 17; exact Calls.grown_of (SB.out _ _)))
          have BH := hide (BG.out nq osq)
          clear z2 z3 g0 g1 g2 g3 g4 h0 SA SB BG B
          generalize grow (wo.drewN nq) osq = w9 at *
          go_wp2_with fail
          go_roundg (m - j)
          case measure => exact hg2
          case rel => exact ⟨j + 1, by go_num, by omega, by omega, BH⟩
        · have d0 : (ls == 0) = false := by simpa using hls
          clear OR hls
          cases aj
          · go_wp2_with fail
            refine wp_region_calm (by kernel_rfl) (by kernel_rfl) ?_
            iterate 21 (refine lex_calm rfl (by rfl) (fun K hK => ?_); go_simp; first | (refine hK _ ?_; clear hK K) | (apply Exists.intro; refine ⟨fun _ _ => ?_, hK _ ?_⟩; (with_reducible exact SA.out _ _); clear hK K))
            iterate 6 ((with_reducible refine lex_skip ?_ ?_ ?_); exact rfl; kernel_rfl)
            iterate 2 ((with_reducible refine lex_calm ?_ ?_ ?_); exact rfl; kernel_rfl; intro K hK; go_simp; first | (refine hK _ ?_; clear hK K) | (apply Exists.intro; refine ⟨fun _ _ => ?_, hK _ ?_⟩; (with_reducible exact SA.out _ _); clear hK K))
            refine lex_nil ?_
            intro w9 G9
            have BH := hide (B.out.trans (G9.1.mono B.out.size))
            clear z2 z3 g0 g1 g2 g3 g4 h0 SA SB BG B G9
            go_wp2_with fail
            go_roundg (m - j)
            case measure => exact hg2
            case rel => exact ⟨j + 1, by go_num, by omega, by omega, BH⟩
          · go_wp2_with fail
            refine wp_region_calm (by kernel_rfl) (by kernel_rfl) ?_
            iterate 21 (refine lex_calm rfl (by rfl) (fun K hK => ?_); go_simp; first | (refine hK _ ?_; clear hK K) | (apply Exists.intro; refine ⟨fun _ _ => ?_, hK _ ?_⟩; (with_reducible exact SA.out _ _); clear hK K))
            iterate 6 ((with_reducible refine lex_skip ?_ ?_ ?_); exact rfl; kernel_rfl)
            iterate 2 ((with_reducible refine lex_calm ?_ ?_ ?_); exact rfl; kernel_rfl; intro K hK; go_simp; first | (refine hK _ ?_; clear hK K) | (apply Exists.intro; refine ⟨fun _ _ => ?_, hK _ ?_⟩; (with_reducible exact SA.out _ _); clear hK K))
            refine lex_nil ?_
            intro w9 G9
            have BH := hide (B.out.trans (G9.1.mono B.out.size))
            clear z2 z3 g0 g1 g2 g3 g4 h0 SA SB BG B G9
            go_wp2_with fail
            go_roundg (m - j)
            case measure => exact hg2
            case rel => exact ⟨j + 1, by go_num, by omega, by omega, BH⟩
      have hljz : ¬ (j : Int) < (m : Int) := by omega
      go_wp2_with fail
      refine (A.out _).mono ?_
      rintro e w4 ⟨rfl, h⟩
      have B5 : Hid (Below w.heap.size w w4) := BE.out.trans ((B.out.trans (h.mono B.out.size)).mono BE.out.size)
      clear h
      go_wp2_with fail
      go_ret
      exact ⟨rfl, B5.out⟩
end Go.Proofs.Ytdoncogkepopiaa
