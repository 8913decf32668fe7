/- What the law BoxFills runs, where Resolve (and, for the sanity check, Offsets) answer as the chapter asks; no other condition. -/
import Derived.Test.YtjaapdkhjgolfaaBoL4
namespace Go.Proofs.Ytjaapdkhjgolfaa
open Go.RowKit Go.Sort
set_option linter.unusedVariables false
set_option linter.unusedSimpArgs false

theorem swap4 (a b c d : Int) : a + b + d + c = a + d + (b + c) := by omega
set_option maxRecDepth 100000 in
set_option maxHeartbeats 20000000 in
theorem fil_core (hR : KRes 11) (hO : KOff 20) (p : Option Addr) (n0 c0 : Nat) (f : Nat → Int) (W : World) (hnc : n0 ≤ c0) (hr : Reads W p n0 f) (hf : ∀ k, -9223372036854775808 ≤ f k ∧ f k ≤ 9223372036854775807) (av : Int) :
    Calls Try.prog 6 #[.slice p n0 c0, .int .i64 av] W fun e w' => e = .returned (.bool true) ∧ Below W.heap.size W w' := by
  by_cases h1 : av < 0
  · clear hR hO hr
    have d1 : decide (av < 0) = true := decide_eq_true h1
    go_enter Try.func6, Try.ntmps6
    go_wp2_with fail
    go_ret
    exact ⟨rfl, Below.refl _ _⟩
  have d1 : decide (av < 0) = false := decide_eq_false h1
  by_cases h2 : 1048576 < av
  · clear hR hO hr
    have d2 : decide (1048576 < av) = true := decide_eq_true h2
    go_enter Try.func6, Try.ntmps6
    go_wp2_with fail
    go_ret
    exact ⟨rfl, Below.refl _ _⟩
  have d2 : decide (1048576 < av) = false := decide_eq_false h2
  have A := hide (fun w' => bawake_any hR hO w')
  have KR := hide hR
  have K0 := hide (New_any p n0 c0 W hnc (fun h => by obtain ⟨b, off, e, _⟩ := hr h; exact ⟨_, e⟩))
  clear hR hO
  go_enter Try.func6, Try.ntmps6
  go_wp2_with fail
  refine K0.out.mono ?_
  rintro e w1 ⟨sb, m, c', rfl, G1, hsb, ⟨hm1, hm2⟩, B1⟩
  have S1 : Hid (SR W w1 sb p m c' f) := ⟨G1, hsb, fun h0 => by
    obtain ⟨b, off, e, hc⟩ := hr (by omega)
    exact ⟨b, off, e, fun k hk => hc k (by omega)⟩, hm2, hf, 0, Nat.zero_le _, B1⟩
  have hsb1 : Hid (sb < w1.heap.size) := B1.lt
  have G1 := hide G1
  have hsb := hide hsb
  clear B1 K0 hr hnc
  have K1 := hide (elements_any W w1 sb m c' p f S1.out)
  go_wp2_with fail
  refine K1.out.mono ?_
  rintro e w2 ⟨v, n, x, rfl, hn, hx, hown, BT, S2⟩
  obtain ⟨q2, cap, rfl, hrow⟩ := own_frow hown
  have G2 := hide (BT.grew G1.out hsb.out)
  have K2 := hide (N_any W w2 sb m c' p f 10 S2 (by omega) (by omega))
  have hrow : Hid (0 < n → ∃ b, q2 = some ⟨b, 0, none⟩ ∧ sb < b ∧ FRow w2 b n 5 36 (fxC x)) := fun h => by
    obtain ⟨b, e, hb, hF⟩ := hrow h
    exact ⟨b, e, Nat.lt_of_lt_of_le hsb1.out hb, hF⟩
  have HX := hide hx
  clear K1 S1 G1 hown BT S2 hm1 hm2 hx hsb1
  go_wp2_with fail
  refine K2.out.mono ?_
  rintro e w3 ⟨gap, rfl, ⟨hg1, hg2⟩, BT, -⟩
  have B3 : Hid (Below W.heap.size W w3) := (BT.grew G2.out hsb.out).1
  have R3 : Hid (0 < n → ∃ b, q2 = some ⟨b, 0, none⟩ ∧ W.heap.size ≤ b ∧ FRow w3 b n 5 36 (fxC (upX x 0))) := fun h => by
    obtain ⟨b, e, hb, hF⟩ := hrow.out h
    exact ⟨b, e, Nat.le_trans hsb.out (Nat.le_of_lt hb), (hF.but BT (Nat.ne_of_gt hb)).congr fun i _ j _ => by
      have e2 : upX x 0 i = x i := by unfold upX; rw [if_neg (by omega)]
      unfold fxC
      rw [e2]⟩
  clear hrow hsb G2 BT K2
  go_wp2_with fail
  go_loopg [8, 9, 10] (n + 1) (fun g1 va vb vk wr => ∃ k : Nat, va = .int .i64 (sumF (mbF x) k + gpF gap k) ∧ vb = .int .i64 (sumF (fun i => (x i).gr) k) ∧ vk = .int .i64 (k : Int) ∧ k ≤ n ∧ n - k < g1 ∧ (0 ≤ sumF (mbF x) k ∧ sumF (mbF x) k ≤ k * 1048576) ∧ (0 ≤ gpF gap k ∧ gpF gap k ≤ k * 10) ∧ (0 ≤ sumF (fun i => (x i).gr) k ∧ sumF (fun i => (x i).gr) k ≤ k * 1000) ∧ Hid (Below W.heap.size W wr) ∧ Hid (0 < n → ∃ b, q2 = some ⟨b, 0, none⟩ ∧ W.heap.size ≤ b ∧ FRow wr b n 5 36 (fxC (upX x k))))
  case atStart => exact ⟨0, by simp [sumF, gpF], rfl, by go_num, by omega, by omega, by simp [sumF], by simp [gpF], by simp [sumF], B3, R3⟩
  case round =>
    clear B3 R3
    obtain ⟨wo, rfl⟩ : ∃ wo : World, wo = wr := ⟨_, rfl⟩
    obtain ⟨k, rfl, rfl, rfl, hk, hg, ⟨s1, s2⟩, ⟨p1, p2⟩, ⟨r1, r2⟩, B, R⟩ := hrel
    by_cases hlt : k < n
    · have hltz : (k : Int) < (n : Int) := by omega
      obtain ⟨b, rfl, hb, F⟩ := R.out (by omega)
      have o0 := HX.out k hlt
      have fz : wo.frozen? ⟨b, k * 5 + 2, none⟩ = false := F.free _
      have hu : upX x k k = x k := by unfold upX; rw [if_neg (by omega)]
      have fc : wo.cell? ⟨b, k * 5 + 2, none⟩ = some (.int .i64 (x k).mx) := by have q := F.cell hlt (j := 2) (by decide); unfold fxC at q; rw [hu] at q; exact q
      have F2 : FRow (wo.setCell ⟨b, k * 5 + 2, none⟩ (.int .i64 1048576)) b n 5 36 (fxC (upX x (k + 1))) := (F.set hlt (j0 := 2) (by decide) (.int .i64 1048576)).congr fun i _ j _ => upX_set x k i j
      have B2 : Hid (Below W.heap.size W (wo.setCell ⟨b, k * 5 + 2, none⟩ (.int .i64 1048576))) := B.out.setCell hb _
      have hu2 : upX x (k + 1) k = ⟨(x k).ba, (x k).mn, 1048576, (x k).gr, (x k).sh⟩ := by unfold upX; rw [if_pos (by omega)]
      have d0 : (wo.setCell ⟨b, k * 5 + 2, none⟩ (.int .i64 1048576)).cell? ⟨b, k * 5, none⟩ = some (.int .i64 (x k).ba) := by have q := F2.cell hlt (j := 0) (by decide); unfold fxC at q; rw [hu2] at q; exact q
      have d1 : (wo.setCell ⟨b, k * 5 + 2, none⟩ (.int .i64 1048576)).cell? ⟨b, k * 5 + 1, none⟩ = some (.int .i64 (x k).mn) := by have q := F2.cell hlt (j := 1) (by decide); unfold fxC at q; rw [hu2] at q; exact q
      have d3 : (wo.setCell ⟨b, k * 5 + 2, none⟩ (.int .i64 1048576)).cell? ⟨b, k * 5 + 3, none⟩ = some (.int .i64 (x k).gr) := by have q := F2.cell hlt (j := 3) (by decide); unfold fxC at q; rw [hu2] at q; exact q
      have e1 : sumF (mbF x) (k + 1) = sumF (mbF x) k + max (x k).ba (x k).mn := rfl
      have e2 : sumF (fun i => (x i).gr) (k + 1) = sumF (fun i => (x i).gr) k + (x k).gr := rfl
      have e3 : gpF gap (k + 1) = if k = 0 then 0 else gpF gap k + gap := by
        unfold gpF
        rw [if_neg (by omega)]
        by_cases h0 : k = 0
        · subst h0; simp
        · rw [if_neg h0, if_neg h0, Int.natCast_succ, show ((k : Int) + 1 - 1) = (k - 1) + 1 by omega, Int.mul_add]
          omega
      have F2 := hide F2
      have b1 : Hid (0 ≤ sumF (mbF x) (k + 1) ∧ sumF (mbF x) (k + 1) ≤ ((k + 1 : Nat) : Int) * 1048576) := by
        show _ ∧ _
        obtain ⟨⟨o1, o2⟩, ⟨o3, o4⟩, -⟩ := o0
        rw [e1]; push_cast; omega
      have b2 : Hid (0 ≤ gpF gap (k + 1) ∧ gpF gap (k + 1) ≤ ((k + 1 : Nat) : Int) * 10) := by
        show _ ∧ _
        rw [e3]; push_cast
        split <;> omega
      have b3 : Hid (0 ≤ sumF (fun i => (x i).gr) (k + 1) ∧ sumF (fun i => (x i).gr) (k + 1) ≤ ((k + 1 : Nat) : Int) * 1000) := by
        show _ ∧ _
        have := o0.2.2.2.1
        rw [e2]; push_cast; omega
      have m3 : Hid (n - (k + 1) < n - k) := Nat.sub_lt_sub_left hlt (Nat.lt_succ_self k)
      replace e1 := hide e1
      replace e2 := hide e2
      clear F R B hu hu2
      obtain ⟨⟨o1, o2⟩, ⟨o3, o4⟩, -, ⟨o5, o6⟩, -⟩ := o0
      generalize (x k).ba = xa at *
      generalize (x k).mn = xm at *
      generalize (x k).gr = xg at *
      generalize (x k).mx = xM at *
      generalize sumF (mbF x) k = S at *
      generalize sumF (fun i => (x i).gr) k = T at *
      by_cases h0 : k = 0
      · have hz : ¬ (0 : Int) < (k : Int) := by omega
        rw [if_pos h0] at e3
        have g0 : gpF gap k = 0 := by unfold gpF; rw [if_pos h0]
        rw [g0]
        replace e3 := hide e3
        replace h0 := hide h0
        clear g0 p1 p2
        have v1 : IntKind.i64.wrap (S + 0 + max xa xm) = S + 0 + max xa xm := wr (by omega) (by omega)
        have v1' : IntKind.i64.wrap (S + max xa xm) = S + max xa xm := wr (by omega) (by omega)
        have v2 : IntKind.i64.wrap (T + xg) = T + xg := wr (by omega) (by omega)
        go_wp2_with fail
        generalize wo.setCell ⟨b, k * 5 + 2, none⟩ (.int .i64 1048576) = w4 at *
        go_quiet (fail)
        have B5 : Hid (Below W.heap.size W (w4.drewN nq)) := ⟨B2.out.os, B2.out.tape, B2.out.output, B2.out.size, B2.out.block⟩
        have F5 : Hid (FRow (w4.drewN nq) b n 5 36 (fxC (upX x (k + 1)))) := F2.out
        have d5 : (w4.drewN nq).cell? ⟨b, k * 5 + 3, none⟩ = some (.int .i64 xg) := d3
        clear d0 d1 d3 B2 F2 fz fc
        generalize w4.drewN nq = w5 at *
        go_wp2_with fail
        go_roundg (n - k)
        case measure => exact hg
        case rel => exact ⟨k + 1, by rw [e1.out, e3.out]; simp, by rw [e2.out], by go_num, hlt, m3.out, b1.out, b2.out, b3.out, B5, fun _ => ⟨b, rfl, hb, F5.out⟩⟩
      · have hz : (0 : Int) < (k : Int) := by omega
        rw [if_neg h0] at e3
        replace e3 := hide e3
        generalize gpF gap k = G at *
        have v1 : IntKind.i64.wrap (S + G + max xa xm) = S + G + max xa xm := wr (by omega) (by omega)
        have v2 : IntKind.i64.wrap (T + xg) = T + xg := wr (by omega) (by omega)
        have v3 : IntKind.i64.wrap (S + G + max xa xm + gap) = S + G + max xa xm + gap := wr (by omega) (by omega)
        go_wp2_with fail
        generalize wo.setCell ⟨b, k * 5 + 2, none⟩ (.int .i64 1048576) = w4 at *
        go_quiet (fail)
        have B5 : Hid (Below W.heap.size W (w4.drewN nq)) := ⟨B2.out.os, B2.out.tape, B2.out.output, B2.out.size, B2.out.block⟩
        have F5 : Hid (FRow (w4.drewN nq) b n 5 36 (fxC (upX x (k + 1)))) := F2.out
        have d5 : (w4.drewN nq).cell? ⟨b, k * 5 + 3, none⟩ = some (.int .i64 xg) := d3
        clear d0 d1 d3 B2 F2 fz fc
        generalize w4.drewN nq = w5 at *
        go_wp2_with fail
        go_roundg (n - k)
        case measure => exact hg
        case rel => exact ⟨k + 1, by rw [e1.out, e3.out]; exact congrArg (Value.int .i64) (swap4 S G gap (max xa xm)), by rw [e2.out], by go_num, hlt, m3.out, b1.out, b2.out, b3.out, B5, fun _ => ⟨b, rfl, hb, F5.out⟩⟩
    · have hltz : ¬ (k : Int) < (n : Int) := by omega
      obtain rfl : n = k := by omega
      have hx' : ∀ i, i < n → okF (upX x n i) := fun i hi => by
        unfold upX
        rw [if_pos hi]
        obtain ⟨h1, h2, h3, h4⟩ := HX.out i hi
        exact ⟨h1, h2, ⟨by show (0 : Int) ≤ 1048576; omega, Int.le_refl _⟩, h4⟩
      have e0 : erR av gap (upX x n) n = 0 := er_ok (by omega) (by omega) (by omega) hx'
      have hs : SRow wo q2 n 5 (fxC (upX x n)) := fun h => by
        obtain ⟨b, rfl, _, hF⟩ := R.out h
        exact hF.srow h
      have H1 := KR.out av gap q2 n cap (upX x n) wo hs (by omega)
      simp only [e0, if_true, eq_self_iff_true] at H1
      replace H1 := hide H1
      have FL := hide (fun h1 h2 => fills_law (av := av) (gap := gap) (n := n) HX.out (by omega) (by omega) h1 h2)
      have RB := hide (fun i hi => res_bd (av := av) (gap := gap) hx' (i := i) hi)
      clear hs hx' e0 KR R HX hk hg hlt
      generalize sumF (mbF x) n = S at *
      generalize sumF (fun i => (x i).gr) n = T at *
      have v9 : 0 ≤ S + gpF gap n := by omega
      go_wp2_with fail
      refine H1.out.mono ?_
      rintro e w4 ⟨q3, d3, rfl, R3, h⟩
      have B4 : Hid (Below W.heap.size W w4) := B.out.trans (h.mono B.out.size)
      have R3 : Hid (Reads w4 q3 n (resF av gap (upX x n) n)) := R3
      clear h B H1
      by_cases hs : av < S + gpF gap n
      · have ds : decide (av < S + gpF gap n) = true := decide_eq_true hs
        clear FL RB
        go_wp2_with fail
        refine (A.out w4).mono ?_
        rintro e wz ⟨rfl, h⟩
        have BZ : Hid (Below W.heap.size W wz) := B4.out.trans (h.mono B4.out.size)
        clear h B4
        go_wp2_with fail
        go_ret
        exact ⟨rfl, BZ.out⟩
      have ds : decide (av < S + gpF gap n) = false := decide_eq_false hs
      by_cases ht : T = 0
      · have dt : (T == 0) = true := by simpa using ht
        clear FL RB
        go_wp2_with fail
        refine (A.out w4).mono ?_
        rintro e wz ⟨rfl, h⟩
        have BZ : Hid (Below W.heap.size W wz) := B4.out.trans (h.mono B4.out.size)
        clear h B4
        go_wp2_with fail
        go_ret
        exact ⟨rfl, BZ.out⟩
      have dt : (T == 0) = false := by simpa using ht
      obtain ⟨fe, hn0⟩ := FL.out (by omega) ht
      have KS := hide (rSum_any q3 n d3 _ w4 R3.out (by omega) (fun i hi => by have := RB.out i hi; omega))
      have hgv : gpF gap n = gap * ((n : Int) - 1) := by unfold gpF; rw [if_neg (by omega)]
      clear FL RB
      rw [hgv] at fe ds hs p1 p2 v9
      rw [hgv]
      generalize hQ : sumF (resF av gap (upX x n) n) n = Q at *
      have v1 : IntKind.i64.wrap ((n : Int) - 1) = (n : Int) - 1 := wr (by omega) (by omega)
      have v2 : IntKind.i64.wrap (gap * ((n : Int) - 1)) = gap * ((n : Int) - 1) := wr (by omega) (by omega)
      have v3 : IntKind.i64.wrap (Q + gap * ((n : Int) - 1)) = Q + gap * ((n : Int) - 1) := wr (by omega) (by omega)
      have v4 : (Q + gap * ((n : Int) - 1) == av) = true := by simpa using fe
      go_wp2_with fail
      refine KS.out.mono ?_
      rintro e w5 ⟨rfl, rfl⟩
      clear KS R3
      go_wp2_with fail
      refine (A.out w5).mono ?_
      rintro e wz ⟨rfl, h⟩
      have BZ : Hid (Below W.heap.size W wz) := B4.out.trans (h.mono B4.out.size)
      clear h B4
      go_wp2_with fail
      go_ret
      exact ⟨rfl, BZ.out⟩
end Go.Proofs.Ytjaapdkhjgolfaa
