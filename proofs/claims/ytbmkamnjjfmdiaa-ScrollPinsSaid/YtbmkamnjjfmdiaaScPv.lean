/- What Visible of package scroll returns; no condition but on sizes. -/
import Derived.Test.YtbmkamnjjfmdiaaScPb
namespace Go.Proofs.Ytbmkamnjjfmdiaa
open Go.RowKit Go.Sort
set_option linter.unusedVariables false
set_option linter.unusedSimpArgs false

set_option maxHeartbeats 8000000 in
set_option maxRecDepth 100000 in
theorem pvi_any (p : Option Addr) (n c : Nat) (l : Nat → Stp) (o h : Int) (w : World) (hp : SRow w p n 2 (stC l)) (hn : n ≤ 9223372036854775807) : Calls Try.prog 10 #[.slice p n c, .int .i64 o, .int .i64 h] w (ViP n l o h w) := by
  have G := hide (fun o => (Below.refl w.heap.size w).alloc (Nat.le_refl _) o)
  have M := hide (inr2 o h w)
  cases hv : inRB o && inRB h with
  | false =>
    have e := hide (show viB n l o h = false by
      cases q : viB n l o h with
      | false => rfl
      | true =>
        unfold viB at q
        simp only [Bool.and_eq_true] at q
        rw [q.1.1, sz_inr q.1.2] at hv
        exact Bool.noConfusion hv)
    rw [hv] at M
    clear hv hp
    go_enter Try.func10, Try.ntmps10
    go_wp2_with fail
    refine M.out.mono ?_
    rintro e w' ⟨rfl, rfl⟩
    go_wp2_with fail
    go_ret2
    exact vi_no e.out (G.out _)
  | true =>
    rw [hv] at M
    rw [Bool.and_eq_true] at hv
    obtain ⟨h0, h1⟩ := hv
    by_cases hh : h < 0
    · have e := hide (show viB n l o h = false by unfold viB; rw [sz_neg hh, Bool.and_false]; rfl)
      have d1 : decide (h < 0) = true := decide_eq_true hh
      clear h0 h1 hp
      go_enter Try.func10, Try.ntmps10
      go_wp2_with fail
      refine M.out.mono ?_
      rintro e w' ⟨rfl, rfl⟩
      go_wp2_with fail
      go_ret2
      exact vi_no e.out (G.out _)
    have d1 : decide (h < 0) = false := decide_eq_false hh
    have h2 : szRB h = true := inr_sz h1 (by omega)
    have KR := hide (fun w' (hB : Below w.heap.size w w') => pvr_any p n c l w' (hp.below hB) hn)
    cases h3 : rowsB n l with
    | false =>
      rw [h3] at KR
      have e := hide (show viB n l o h = false by simp [viB, h3])
      clear h0 h1 h2 h3 hp
      go_enter Try.func10, Try.ntmps10
      go_wp2_with fail
      refine M.out.mono ?_
      rintro e w' ⟨rfl, rfl⟩
      go_wp2_with fail
      refine (KR.out _ (G.out _)).mono ?_
      rintro e w' ⟨rfl, hB⟩
      have B1 := hide ((G.out _).trans (hB.mono (G.out _).size))
      clear hB
      go_wp2_with fail
      go_ret2
      exact vi_no e.out B1.out
    | true =>
      rw [h3] at KR
      have HV := hide (show viB n l o h = true by simp [viB, h0, h2, h3])
      obtain ⟨o1, o2⟩ := inR_iff.1 h0
      obtain ⟨z1, z2⟩ := szR_iff.1 h2
      have wo : IntKind.i64.wrap (o + h) = o + h := wr (by omega) (by omega)
      have hn2 := (rows_iff.1 h3).1
      have TB : Hid (∀ i, i ≤ n → 0 ≤ topF l i ∧ topF l i ≤ 10995116277760000) := fun i hi => top_big h3 hi
      have HP := hide hp
      clear h0 h1 h2 h3 hp hn
      go_enter Try.func10, Try.ntmps10
      go_wp2_with fail
      refine M.out.mono ?_
      rintro e w' ⟨rfl, rfl⟩
      go_wp2_with fail
      refine (KR.out _ (G.out _)).mono ?_
      rintro e w1 ⟨rfl, hB⟩
      have BB := hide ((G.out _).trans (hB.mono (G.out _).size))
      clear hB KR M G
      go_wp2_with fail
      go_loopg [6, 8] (n + 1) (fun g1 vk vt wr => ∃ k : Nat, vk = .int .i64 (k : Int) ∧ vt = .int .i64 (topF l k) ∧ k ≤ n ∧ n - k < g1 ∧ Hid (∀ j, j < k → topF l (j + 1) ≤ o) ∧ wr = w1)
      case atStart => exact ⟨0, by go_num, by first | rfl | go_num, by omega, by omega, fun i hi => absurd hi (Nat.not_lt_zero _), rfl⟩
      case round =>
        obtain ⟨wz, rfl⟩ : ∃ wz : World, wz = wr := ⟨_, rfl⟩
        obtain ⟨k, rfl, rfl, hk, hg, L1, rfl⟩ := hrel
        have hk0 : (0 : Int) ≤ (k : Int) := by omega
        by_cases hlt : k < n
        case neg =>
          have hltz : ¬ (k : Int) < (n : Int) := by omega
          have F1 : Hid (k = n ∨ o < topF l (k + 1)) := Or.inl (by omega)
          go_wp2_with fail
          obtain ⟨wq, hwq⟩ : ∃ wq : World, wq = wz := ⟨_, rfl⟩
          rw [← hwq] at BB ⊢
          clear hwq
          go_loopg [7, 8] (n + 1) (fun g2 vm vt wr => ∃ m : Nat, vm = .int .i64 (m : Int) ∧ vt = .int .i64 (topF l m) ∧ k ≤ m ∧ m ≤ n ∧ n - m < g2 ∧ Hid (∀ j, k ≤ j → j < m → topF l j < o + h) ∧ wr = wq)
          case atStart => exact ⟨k, by go_num, by first | rfl | go_num, Nat.le_refl _, hk, by omega, fun j h1 h2 => absurd h2 (by omega), rfl⟩
          case round =>
            obtain ⟨wy, rfl⟩ : ∃ wy : World, wy = wr := ⟨_, rfl⟩
            obtain ⟨m, rfl, rfl, hm1, hm2, hg2, L3, hw⟩ := hrel
            subst hw
            have hm0 : (0 : Int) ≤ (m : Int) := by omega
            by_cases hlm : m < n
            case neg =>
              have hlmz : ¬ (m : Int) < (n : Int) := by omega
              have FN := hide (vi_yes HV.out BB.out hk L1.out F1.out hm1 hm2 L3.out (Or.inl (by omega)))
              clear L1 L3 F1 BB HV
              generalize topF l m = tm at *
              go_wp2_with fail
              go_ret2
              exact FN.out
            exfalso
            omega
        have hltz : (k : Int) < (n : Int) := by omega
        obtain ⟨b, off, rfl, hb, hc⟩ := (HP.out.below BB.out) (by omega)
        have c1 : wz.cell? ⟨b, off + k * 2 + 1, none⟩ = some (.int .i64 (l k).h) := hc k hlt 1 (by decide)
        have TS : Hid (topF l k + (l k).h = topF l (k + 1)) := rfl
        have tb := TB.out (k + 1) (by omega)
        rw [top_succ] at tb
        obtain ⟨tb1, tb2⟩ := tb
        have wt : IntKind.i64.wrap (topF l k + (l k).h) = topF l k + (l k).h := wr (by omega) (by omega)
        clear hc hb
        by_cases hq : topF l k + (l k).h ≤ o
        · have d1 : decide (topF l k + (l k).h ≤ o) = true := decide_eq_true hq
          have L2 : Hid (∀ j, j < k + 1 → topF l (j + 1) ≤ o) := fun j hj => by
            by_cases e : j = k
            · subst e; exact hq
            · exact L1.out j (by omega)
          clear L1 hq
          generalize topF l k = tk at *
          generalize (l k).h = hk' at *
          go_wp2_with fail
          go_roundg (n - k)
          case measure => exact hg
          case rel => exact ⟨k + 1, by go_num, by rw [← TS.out], by omega, by omega, L2, rfl⟩
        have F1 : Hid (k = n ∨ o < topF l (k + 1)) := Or.inr (by rw [top_succ]; omega)
        have d1 : decide (topF l k + (l k).h ≤ o) = false := decide_eq_false hq
        clear hq
        go_wp2_with fail
        obtain ⟨wq, hwq⟩ : ∃ wq : World, wq = wz := ⟨_, rfl⟩
        rw [← hwq] at BB ⊢
        clear hwq
        go_loopg [7, 8] (n + 1) (fun g2 vm vt wr => ∃ m : Nat, vm = .int .i64 (m : Int) ∧ vt = .int .i64 (topF l m) ∧ k ≤ m ∧ m ≤ n ∧ n - m < g2 ∧ Hid (∀ j, k ≤ j → j < m → topF l j < o + h) ∧ wr = wq)
        case atStart => exact ⟨k, by go_num, by first | rfl | go_num, Nat.le_refl _, hk, by omega, fun j h1 h2 => absurd h2 (by omega), rfl⟩
        case round =>
          obtain ⟨wy, rfl⟩ : ∃ wy : World, wy = wr := ⟨_, rfl⟩
          obtain ⟨m, rfl, rfl, hm1, hm2, hg2, L3, hw⟩ := hrel
          subst hw
          have hm0 : (0 : Int) ≤ (m : Int) := by omega
          by_cases hlm : m < n
          case neg =>
            have hlmz : ¬ (m : Int) < (n : Int) := by omega
            have FN := hide (vi_yes HV.out BB.out hk L1.out F1.out hm1 hm2 L3.out (Or.inl (by omega)))
            clear L1 L3 F1 BB HV
            generalize topF l m = tm at *
            go_wp2_with fail
            go_ret2
            exact FN.out
          have hlmz : (m : Int) < (n : Int) := by omega
          by_cases hq2 : topF l m < o + h
          · have d2 : decide (topF l m < o + h) = true := decide_eq_true hq2
            have L4 : Hid (∀ j, k ≤ j → j < m + 1 → topF l j < o + h) := fun j h1 h2 => by
              by_cases e : j = m
              · subst e; exact hq2
              · exact L3.out j h1 (by omega)
            obtain ⟨b2, off2, e2, hb, hc⟩ := (HP.out.below BB.out) (by omega)
            injection e2 with e2
            injection e2 with e3 e4
            subst e3 e4
            have c2 : wy.cell? ⟨b, off + m * 2 + 1, none⟩ = some (.int .i64 (l m).h) := hc m hlm 1 (by decide)
            have TS : Hid (topF l m + (l m).h = topF l (m + 1)) := rfl
            have tb := TB.out (m + 1) (by omega)
            rw [top_succ] at tb
            obtain ⟨tb1, tb2⟩ := tb
            have wt : IntKind.i64.wrap (topF l m + (l m).h) = topF l m + (l m).h := wr (by omega) (by omega)
            clear L3 hq2 hc hb
            generalize topF l m = tm at *
            generalize (l m).h = hm at *
            go_wp2_with fail
            go_roundg (n - m)
            case measure => omega
            case rel => exact ⟨m + 1, by go_num, by rw [← TS.out], by omega, by omega, by omega, L4, rfl⟩
          have d2 : decide (topF l m < o + h) = false := decide_eq_false hq2
          have FN := hide (vi_yes HV.out BB.out hk L1.out F1.out hm1 hm2 L3.out (Or.inr (by omega)))
          clear L1 L3 F1 BB HV hq2
          generalize topF l m = tm at *
          go_wp2_with fail
          go_ret2
          exact FN.out
end Go.Proofs.Ytbmkamnjjfmdiaa
