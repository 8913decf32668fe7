/- What Visible and Pinned of the reference of scroll return; no condition but on sizes. -/
import Derived.Test.YtbmkamnjjfmdiaaScR2
namespace Go.Proofs.Ytbmkamnjjfmdiaa
open Go.RowKit Go.Sort
set_option linter.unusedVariables false
set_option linter.unusedSimpArgs false

def ViP (n : Nat) (l : Nat → Stp) (o h : Int) (w : World) (e : Ending) (w' : World) : Prop := e = .returned (.tuple #[.int .i64 (vi1 n l o h), .int .i64 (vi2 n l o h)]) ∧ Below w.heap.size w w'
theorem vi_no {n : Nat} {l : Nat → Stp} {o h : Int} {w w' : World} (hv : viB n l o h = false) (hB : Below w.heap.size w w') : ViP n l o h w (.returned (.tuple #[.int .i64 0, .int .i64 0])) w' := by
  unfold ViP vi1 vi2
  rw [hv]
  exact ⟨rfl, hB⟩
theorem vi_yes {n k m : Nat} {l : Nat → Stp} {o h : Int} {w w' : World} (hv : viB n l o h = true) (hB : Below w.heap.size w w') (hk : k ≤ n) (h1 : ∀ j, j < k → topF l (j + 1) ≤ o) (h2 : k = n ∨ o < topF l (k + 1)) (hm1 : k ≤ m) (hm2 : m ≤ n) (h3 : ∀ j, k ≤ j → j < m → topF l j < o + h) (h4 : m = n ∨ o + h ≤ topF l m) : ViP n l o h w (.returned (.tuple #[.int .i64 (k : Int), .int .i64 (m : Int)])) w' := by
  have e1 : fiF n l o = k := fsF_eq (Nat.zero_le _) (by omega) (fun j _ hj => decide_eq_false (by have := h1 j hj; omega)) (by rcases h2 with q | q; exact Or.inl (by omega); exact Or.inr (decide_eq_true q))
  have e2 : enF n l o h = m := by
    unfold enF
    rw [e1]
    exact fsF_eq hm1 (by omega) (fun j hj hj2 => decide_eq_false (by have := h3 j hj hj2; omega)) (by rcases h4 with q | q; exact Or.inl (by omega); exact Or.inr (decide_eq_true q))
  unfold ViP vi1 vi2
  rw [hv, if_pos rfl, if_pos rfl, e1, e2]
  exact ⟨rfl, hB⟩
set_option maxHeartbeats 8000000 in
set_option maxRecDepth 100000 in
theorem rvi_any (p : Option Addr) (n c : Nat) (l : Nat → Stp) (o h : Int) (w : World) (hp : SRow w p n 2 (stC l)) (hn : n ≤ 9223372036854775807) : Calls Try.prog 11 #[.slice p n c, .int .i64 o, .int .i64 h] w (ViP n l o h w) := by
  cases h0 : inRB o with
  | false =>
    have K0 := fun W => hide (swi_at o false h0 W)
    have hv := hide (show viB n l o h = false by simp [viB, h0])
    clear h0 hp
    go_enter Try.func11, Try.ntmps11
    go_wp2_with fail
    refine (K0 _).out.mono ?_
    rintro e w' ⟨rfl, rfl⟩
    go_wp2_with fail
    go_ret2
    exact vi_no hv.out (Below.refl _ _)
  | true =>
    have K0 := fun W => hide (swi_at o true h0 W)
    cases h1 : szRB h with
    | false =>
      have K1 := fun W => hide (ssz_at h false h1 W)
      have hv := hide (show viB n l o h = false by simp [viB, h1])
      clear h0 h1 hp
      go_enter Try.func11, Try.ntmps11
      go_wp2_with fail
      refine (K0 _).out.mono ?_
      rintro e w' ⟨rfl, rfl⟩
      go_wp2_with fail
      refine (K1 _).out.mono ?_
      rintro e w' ⟨rfl, rfl⟩
      go_wp2_with fail
      go_ret2
      exact vi_no hv.out (Below.refl _ _)
    | true =>
      have K1 := fun W => hide (ssz_at h true h1 W)
      have KR := hide (rrows_any p n c l w hp hn)
      cases h2 : rowsB n l with
      | false =>
        rw [h2] at KR
        have hv := hide (show viB n l o h = false by simp [viB, h2])
        clear h0 h1 h2 hp
        go_enter Try.func11, Try.ntmps11
        go_wp2_with fail
        refine (K0 _).out.mono ?_
        rintro e w' ⟨rfl, rfl⟩
        go_wp2_with fail
        refine (K1 _).out.mono ?_
        rintro e w' ⟨rfl, rfl⟩
        go_wp2_with fail
        refine KR.out.mono ?_
        rintro e w' ⟨rfl, rfl⟩
        go_wp2_with fail
        go_ret2
        exact vi_no hv.out (Below.refl _ _)
      | true =>
        rw [h2] at KR
        have HV := hide (show viB n l o h = true by simp [viB, h0, h1, h2])
        obtain ⟨o1, o2⟩ := inR_iff.1 h0
        obtain ⟨z1, z2⟩ := szR_iff.1 h1
        have wo : IntKind.i64.wrap (o + h) = o + h := wr (by omega) (by omega)
        have KT := hide (rtops_any p n c l w hp h2)
        have hn2 := (rows_iff.1 h2).1
        clear h0 h1 h2 hp hn
        go_enter Try.func11, Try.ntmps11
        go_wp2_with fail
        refine (K0 _).out.mono ?_
        rintro e w' ⟨rfl, rfl⟩
        go_wp2_with fail
        refine (K1 _).out.mono ?_
        rintro e w' ⟨rfl, rfl⟩
        go_wp2_with fail
        refine KR.out.mono ?_
        rintro e w' ⟨rfl, hw'⟩
        subst hw'
        go_wp2_with fail
        refine KT.out.mono ?_
        rintro e w1 ⟨tb, kt, rfl, hC, -, hB⟩
        have CC := hide hC
        have BB := hide hB
        clear KT KR K0 K1 hC hB
        go_wp2_with fail
        go_loopg [9] (n + 1) (fun g1 vk wr => ∃ k : Nat, vk = .int .i64 (k : Int) ∧ k ≤ n ∧ n - k < g1 ∧ Hid (∀ j, j < k → topF l (j + 1) ≤ o) ∧ wr = w1)
        case atStart => exact ⟨0, by go_num, by omega, by omega, fun i hi => absurd hi (Nat.not_lt_zero _), rfl⟩
        case round =>
          obtain ⟨wz, rfl⟩ : ∃ wz : World, wz = wr := ⟨_, rfl⟩
          obtain ⟨k, rfl, hk, hg, L1, rfl⟩ := hrel
          have hk0 : (0 : Int) ≤ (k : Int) + 1 := by omega
          by_cases hlt : k < n
          case neg =>
            have hltz : ¬ (k : Int) < (n : Int) := by omega
            have F1 : Hid (k = n ∨ o < topF l (k + 1)) := Or.inl (by omega)
            go_wp2_with fail
            obtain ⟨wq, hwq⟩ : ∃ wq : World, wq = wz := ⟨_, rfl⟩
            rw [← hwq] at CC BB ⊢
            clear hwq
            go_loopg [10] (n + 1) (fun g2 vm wr => ∃ m : Nat, vm = .int .i64 (m : Int) ∧ k ≤ m ∧ m ≤ n ∧ n - m < g2 ∧ Hid (∀ j, k ≤ j → j < m → topF l j < o + h) ∧ wr = wq)
            case atStart => exact ⟨k, by go_num, Nat.le_refl _, hk, by omega, fun j h1 h2 => absurd h2 (by omega), rfl⟩
            case round =>
              obtain ⟨m, rfl, hm1, hm2, hg2, L3, hw⟩ := hrel
              subst hw
              have hm0 : (0 : Int) ≤ (m : Int) := by omega
              by_cases hlm : m < n
              case neg =>
                have hlmz : ¬ (m : Int) < (n : Int) := by omega
                have FN := hide (vi_yes HV.out BB.out hk L1.out F1.out hm1 hm2 L3.out (Or.inl (by omega)))
                clear L1 L3 F1 CC BB HV
                go_wp2_with fail
                go_ret2
                exact FN.out
              have hlmz : (m : Int) < (n : Int) := by omega
              have hlm1 : (m : Int) < (n : Int) + 1 := by omega
              have c2 := CC.out.cell (i := m) (by omega)
              by_cases hq2 : topF l m < o + h
              · have d2 : decide (topF l m < o + h) = true := decide_eq_true hq2
                have L4 : Hid (∀ j, k ≤ j → j < m + 1 → topF l j < o + h) := fun j h1 h2 => by
                  by_cases e : j = m
                  · subst e; omega
                  · exact L3.out j h1 (by omega)
                clear L3 hq2
                generalize topF l m = tm at *
                go_wp2_with fail
                go_roundg (n - m)
                case measure => exact hg2
                case rel => exact ⟨m + 1, by go_num, by omega, by omega, by omega, L4, rfl⟩
              have d2 : decide (topF l m < o + h) = false := decide_eq_false hq2
              have FN := hide (vi_yes HV.out BB.out hk L1.out F1.out hm1 hm2 L3.out (Or.inr (by omega)))
              clear L1 L3 F1 BB HV
              go_wp2_with fail
              go_ret2
              exact FN.out
          have hltz : (k : Int) < (n : Int) := by omega
          have hlz1 : (k : Int) + 1 < (n : Int) + 1 := by omega
          have c1 := CC.out.cell (i := k + 1) (by omega)
          have tn : ((k : Int) + 1).toNat = k + 1 := by omega
          have wk : IntKind.i64.wrap ((k : Int) + 1) = (k : Int) + 1 := wr (by omega) (by omega)
          by_cases hq : topF l (k + 1) ≤ o
          · have d1 : decide (topF l (k + 1) ≤ o) = true := decide_eq_true hq
            have L2 : Hid (∀ j, j < k + 1 → topF l (j + 1) ≤ o) := fun j hj => by
              by_cases e : j = k
              · subst e; omega
              · exact L1.out j (by omega)
            clear L1 hq
            generalize topF l (k + 1) = tk at *
            go_wp2_with fail
            go_roundg (n - k)
            case measure => exact hg
            case rel => exact ⟨k + 1, by go_num, by omega, by omega, L2, rfl⟩
          have F1 : Hid (k = n ∨ o < topF l (k + 1)) := Or.inr (by omega)
          have d1 : decide (topF l (k + 1) ≤ o) = false := decide_eq_false hq
          clear hq
          go_wp2_with fail
          obtain ⟨wq, hwq⟩ : ∃ wq : World, wq = wz := ⟨_, rfl⟩
          rw [← hwq] at CC BB ⊢
          clear hwq
          go_loopg [10] (n + 1) (fun g2 vm wr => ∃ m : Nat, vm = .int .i64 (m : Int) ∧ k ≤ m ∧ m ≤ n ∧ n - m < g2 ∧ Hid (∀ j, k ≤ j → j < m → topF l j < o + h) ∧ wr = wq)
          case atStart => exact ⟨k, by go_num, Nat.le_refl _, hk, by omega, fun j h1 h2 => absurd h2 (by omega), rfl⟩
          case round =>
            obtain ⟨m, rfl, hm1, hm2, hg2, L3, hw⟩ := hrel
            subst hw
            have hm0 : (0 : Int) ≤ (m : Int) := by omega
            by_cases hlm : m < n
            case neg =>
              have hlmz : ¬ (m : Int) < (n : Int) := by omega
              have FN := hide (vi_yes HV.out BB.out hk L1.out F1.out hm1 hm2 L3.out (Or.inl (by omega)))
              clear L1 L3 F1 CC BB HV
              go_wp2_with fail
              go_ret2
              exact FN.out
            have hlmz : (m : Int) < (n : Int) := by omega
            have hlm1 : (m : Int) < (n : Int) + 1 := by omega
            have c2 := CC.out.cell (i := m) (by omega)
            by_cases hq2 : topF l m < o + h
            · have d2 : decide (topF l m < o + h) = true := decide_eq_true hq2
              have L4 : Hid (∀ j, k ≤ j → j < m + 1 → topF l j < o + h) := fun j h1 h2 => by
                by_cases e : j = m
                · subst e; omega
                · exact L3.out j h1 (by omega)
              clear L3 hq2
              generalize topF l m = tm at *
              go_wp2_with fail
              go_roundg (n - m)
              case measure => exact hg2
              case rel => exact ⟨m + 1, by go_num, by omega, by omega, by omega, L4, rfl⟩
            have d2 : decide (topF l m < o + h) = false := decide_eq_false hq2
            have FN := hide (vi_yes HV.out BB.out hk L1.out F1.out hm1 hm2 L3.out (Or.inr (by omega)))
            clear L1 L3 F1 BB HV
            go_wp2_with fail
            go_ret2
            exact FN.out
def PiX : Prop := True
/-- What a call of Pinned has returned. -/
def PiP (n : Nat) (l : Nat → Sct) (o : Int) (w : World) (e : Ending) (w' : World) : Prop := (piB n l o = false → e = .returned (.slice none 0 0)) ∧ (piB n l o = true → ∃ q c, e = .returned (.slice q n c) ∧ Reads w' q n (piF l o)) ∧ Below w.heap.size w w'
theorem pi_no {n : Nat} {l : Nat → Sct} {o : Int} {w w' : World} (h : piB n l o = false) (hB : Below w.heap.size w w') : PiP n l o w (.returned (.slice none 0 0)) w' := ⟨fun _ => rfl, fun q => by rw [h] at q; exact Bool.noConfusion q, hB⟩
def okS (l : Nat → Sct) (i : Nat) : Bool := (inRB (l i).tp && szRB (l i).ht) && szRB (l i).hd
theorem pi_bad {n i : Nat} {l : Nat → Sct} {o : Int} (hi : i < n) (h : okS l i = false) : piB n l o = false := by
  unfold piB
  rw [alF_bad (P := fun i => (inRB (l i).tp && szRB (l i).ht) && szRB (l i).hd) hi h, Bool.and_false]
theorem pi_good {n : Nat} {l : Nat → Sct} {o : Int} (h0 : inRB o = true) (hn : n ≤ 10000) (h : ∀ i, i < n → okS l i = true) : piB n l o = true := by
  unfold piB
  rw [h0, decide_eq_true hn, show alF (fun i => (inRB (l i).tp && szRB (l i).ht) && szRB (l i).hd) n = true from alF_iff.2 h]; rfl
set_option maxHeartbeats 8000000 in
set_option maxRecDepth 100000 in
theorem rpi_any (p : Option Addr) (n c : Nat) (l : Nat → Sct) (o : Int) (w : World) (hp : SRow w p n 3 (scC l)) : Calls Try.prog 13 #[.slice p n c, .int .i64 o] w (PiP n l o w) := by
  obtain ⟨it, i1, i2, i3, i4⟩ := info_partsZ info_inS
  cases h0 : inRB o with
  | false =>
    have K0 := fun W => hide (swi_at o false h0 W)
    have hv := hide (show piB n l o = false by simp [piB, h0])
    clear h0 hp
    go_enter Try.func13, Try.ntmps13
    go_wp2_with fail
    refine (K0 _).out.mono ?_
    rintro e w' ⟨rfl, rfl⟩
    go_wp2_with fail
    go_ret
    exact pi_no hv.out (Below.refl _ _)
  | true =>
    have K0 := fun W => hide (swi_at o true h0 W)
    by_cases hl : 10000 < n
    · have hv := hide (show piB n l o = false by unfold piB; rw [decide_eq_false (by omega), Bool.and_false]; rfl)
      have hz : (10000 : Int) < (n : Int) := by omega
      clear h0 hp
      go_enter Try.func13, Try.ntmps13
      go_wp2_with fail
      refine (K0 _).out.mono ?_
      rintro e w' ⟨rfl, rfl⟩
      go_wp2_with fail
      go_ret
      exact pi_no hv.out (Below.refl _ _)
    have hz : ¬ (10000 : Int) < (n : Int) := by omega
    have HP := hide hp
    obtain ⟨o1, o2⟩ := inR_iff.1 h0
    have BAD : Hid (∀ i, i < n → okS l i = false → piB n l o = false) := fun i hi h => pi_bad hi h
    have ALL : Hid ((∀ i, i < n → okS l i = true) → piB n l o = true) := fun h => pi_good h0 (by omega) h
    clear h0 hp
    go_enter Try.func13, Try.ntmps13
    go_wp2_with fail
    refine (K0 _).out.mono ?_
    rintro e w' ⟨rfl, rfl⟩
    go_wp2_with fail
    clear K0
    go_loopg [5, 6] (n + 1) (fun g1 vv vk wr => ∃ (k : Nat) (v : Value), v = vv ∧ vk = .int .i64 (k : Int) ∧ k ≤ n ∧ n - k < g1 ∧ Hid (∀ i, i < k → okS l i = true) ∧ Hid (wr.ownsRow w.heap.size 3 1 v k (vals k (piF l o))) ∧ Hid (Below w.heap.size w wr))
    case atStart => exact ⟨0, _, rfl, by go_num, by omega, by omega, fun i hi => absurd hi (Nat.not_lt_zero _), World.ownsRow_nil _ _ _ _, Below.refl _ _⟩
    case round =>
      obtain ⟨wo, rfl⟩ : ∃ wo : World, wo = wr := ⟨_, rfl⟩
      obtain ⟨k, va, rfl, rfl, hk, hg, OK, OO, BB⟩ := hrel
      by_cases hlt : k < n
      case neg =>
        have hltz : ¬ (k : Int) < (n : Int) := by omega
        obtain rfl : n = k := by omega
        have hv := ALL.out OK.out
        obtain ⟨q, b, cv, rfl, hcv, hb, hq⟩ := own_sz OO.out
        have FN : Hid (PiP n l o w (.returned (.slice q n cv)) wo) := ⟨fun h => by rw [hv] at h; exact Bool.noConfusion h, fun _ => ⟨q, cv, rfl, fun h => by obtain ⟨rfl, hC⟩ := hq h; exact hC.reads h⟩, BB.out⟩
        clear OO BB HP BAD ALL OK hq hv
        go_wp2_with fail
        go_ret
        exact FN.out
      have hltz : (k : Int) < (n : Int) := by omega
      have hk0 : (0 : Int) ≤ (k : Int) := by omega
      obtain ⟨lb, off, rfl, hlb, hc⟩ := (HP.out.below BB.out) (by omega)
      have c0 : wo.cell? ⟨lb, off + k * 3, none⟩ = some (.int .i64 (l k).tp) := hc k hlt 0 (by decide)
      have c1 : wo.cell? ⟨lb, off + k * 3 + 1, none⟩ = some (.int .i64 (l k).ht) := hc k hlt 1 (by decide)
      have c2 : wo.cell? ⟨lb, off + k * 3 + 2, none⟩ = some (.int .i64 (l k).hd) := hc k hlt 2 (by decide)
      have B0 := hide BB.out
      clear hc hlb
      cases h1 : inRB (l k).tp with
      | false =>
        have hv := hide (BAD.out k hlt (by simp [okS, h1]))
        have K0 := fun W => hide (swi_at (l k).tp false h1 W)
        clear BAD ALL OK OO BB HP h1
        generalize (l k).tp = tp at *
        go_wp2_with fail
        refine (K0 _).out.mono ?_
        rintro e w9 ⟨rfl, rfl⟩
        go_wp2_with fail
        go_ret
        exact pi_no hv.out B0.out
      | true =>
        have K0 := fun W => hide (swi_at (l k).tp true h1 W)
        cases h2 : szRB (l k).ht with
        | false =>
          have hv := hide (BAD.out k hlt (by simp [okS, h2]))
          have K1 := fun W => hide (ssz_at (l k).ht false h2 W)
          clear BAD ALL OK OO BB HP h1 h2
          generalize (l k).tp = tp at *
          generalize (l k).ht = ht at *
          go_wp2_with fail
          refine (K0 _).out.mono ?_
          rintro e w9 ⟨rfl, rfl⟩
          go_wp2_with fail
          refine (K1 _).out.mono ?_
          rintro e w9 ⟨rfl, rfl⟩
          go_wp2_with fail
          go_ret
          exact pi_no hv.out B0.out
        | true =>
          have K1 := fun W => hide (ssz_at (l k).ht true h2 W)
          cases h3 : szRB (l k).hd with
          | false =>
            have hv := hide (BAD.out k hlt (by simp [okS, h3]))
            have K2 := fun W => hide (ssz_at (l k).hd false h3 W)
            clear BAD ALL OK OO BB HP h1 h2 h3
            generalize (l k).tp = tp at *
            generalize (l k).ht = ht at *
            generalize (l k).hd = hd at *
            go_wp2_with fail
            refine (K0 _).out.mono ?_
            rintro e w9 ⟨rfl, rfl⟩
            go_wp2_with fail
            refine (K1 _).out.mono ?_
            rintro e w9 ⟨rfl, rfl⟩
            go_wp2_with fail
            refine (K2 _).out.mono ?_
            rintro e w9 ⟨rfl, rfl⟩
            go_wp2_with fail
            go_ret
            exact pi_no hv.out B0.out
          | true =>
            have K2 := fun W => hide (ssz_at (l k).hd true h3 W)
            have OK2 : Hid (∀ i, i < k + 1 → okS l i = true) := fun i hi => by
              by_cases e : i = k
              · subst e; simp [okS, h1, h2, h3]
              · exact OK.out i (by omega)
            obtain ⟨t1, t2⟩ := inR_iff.1 h1
            obtain ⟨u1, u2⟩ := szR_iff.1 h2
            obtain ⟨v1, v2⟩ := szR_iff.1 h3
            have wt : IntKind.i64.wrap ((l k).tp + (l k).ht) = (l k).tp + (l k).ht := wr (by omega) (by omega)
            have wd : IntKind.i64.wrap ((l k).tp + (l k).ht - (l k).hd) = (l k).tp + (l k).ht - (l k).hd := wr (by omega) (by omega)
            have EV : Hid (vals k (piF l o) ++ [.int .i64 (max (l k).tp (min o ((l k).tp + (l k).ht - (l k).hd)))] = vals (k + 1) (piF l o)) := vals_snoc k (piF l o)
            have JQ : Hid (∀ W', W'.ownsRow w.heap.size 3 1 va k (vals k (piF l o)) → Below w.heap.size w W' → W'.cell? ⟨lb, off + k * 3, none⟩ = some (.int .i64 (l k).tp) ∧ W'.cell? ⟨lb, off + k * 3 + 1, none⟩ = some (.int .i64 (l k).ht) ∧ W'.cell? ⟨lb, off + k * 3 + 2, none⟩ = some (.int .i64 (l k).hd)) := fun W' _ hB => by
              obtain ⟨b3, o3, e, _, hc3⟩ := (HP.out.below hB) (by omega)
              injection e with e
              injection e with e4 e5
              subst e4 e5
              exact ⟨hc3 k hlt 0 (by decide), hc3 k hlt 1 (by decide), hc3 k hlt 2 (by decide)⟩
            clear h1 h2 h3 BAD OK B0
            generalize vals k (piF l o) = xs at *
            generalize (l k).tp = tp at *
            generalize (l k).ht = ht at *
            generalize (l k).hd = hd at *
            go_wp2_with fail
            refine (K0 _).out.mono ?_
            rintro e w9 ⟨rfl, rfl⟩
            go_wp2_with fail
            refine (K1 _).out.mono ?_
            rintro e w9 ⟨rfl, rfl⟩
            go_wp2_with fail
            refine (K2 _).out.mono ?_
            rintro e w9 ⟨rfl, rfl⟩
            go_wp2_with fail
            clear K0 K1 K2 c0 c1 c2
            refine MJ.wp_region_mixed (fun W' => W'.cell? ⟨lb, off + k * 3, none⟩ = some (.int .i64 tp) ∧ W'.cell? ⟨lb, off + k * 3 + 1, none⟩ = some (.int .i64 ht) ∧ W'.cell? ⟨lb, off + k * 3 + 2, none⟩ = some (.int .i64 hd)) [26, 27, 28] [(72, 26), (73, 27), (5, 28)] (A1M w w.heap.size 3 1 va k xs [.int .i64 (max tp (min o (tp + ht - hd)))] 26 27 28) (by kernel_rfl) (by kernel_rfl) (by simp) ?h0 (fun D D' vs vs' W hD h => h.ext hD) ?hold ?_
            case h0 => exact fun vs => A1M.start ⟨BB.out.os, BB.out.tape, BB.out.output, BB.out.size, BB.out.block⟩ OO.out
            case hold =>
              intro D vs W i hM hi hB hD hcl
              have hk : D 27 = false := hold_of (by decide +kernel) (by simpa using hi) hB hD hcl
              exact JQ.out W (hM.h0 hk) hM.bl
            repeat (refine MJ.lex_calm rfl (by rfl) (fun K hK => ?_); apply Exists.intro; refine ⟨fun W' hW => ?_, ?_⟩; (dsimp only at hW; go_simp; exact rfl); go_simp; refine hK _ ?_; clear hK K)
            refine MJ.lex_made (by rfl) rfl ?_ ?_
            · rintro D vs W hM hD hcl hdep
              have fb := off_of (hcl 27 26 (by decide +kernel)) hD
              have fc := off_of (hcl 28 27 (by decide +kernel)) fb
              have FIN := hide (hM.opA (by decide) (by decide) fb fc)
              clear hM
              simp [go_sem, evS, List.lookup]
              exact FIN.out
            repeat (refine MJ.lex_calm rfl (by rfl) (fun K hK => ?_); apply Exists.intro; refine ⟨fun W' hW => ?_, ?_⟩; (dsimp only at hW; go_simp; exact rfl); go_simp; refine hK _ ?_; clear hK K)
            refine MJ.lex_made (by rfl) rfl ?_ ?_
            · rintro D vs W hM hD hcl hdep
              have fa := hdep 26 (by decide +kernel)
              have fc := off_of (hcl 28 27 (by decide +kernel)) hD
              obtain ⟨g, e, hb⟩ := hM.ha fa hD
              have hO := hM.h0 hD
              refine does_append_any W _ _ 26 rfl w.heap.size 3 it _ 1 8 Try.underlying26 i1 i2 i3 i4 rfl (by decide) va k xs rfl hO ⟨g, 0, none⟩ 1 1 [.int .i64 (max tp (min o (tp + ht - hd)))] e rfl ?c1 ?c2 ?c3 ?c4 hM.bl.size ?_
              case c1 =>
                intro j u hj
                rw [addr_add]
                exact hb.cell j hj
              case c2 => intro u hu; simp at hu; rcases hu with rfl; rfl
              case c3 => unfold maxLen; omega
              case c4 => omega
              intro v' w' ho hgr
              exact hM.opB (by decide) hD fc (Nat.le_refl _) ho hgr
            repeat (refine MJ.lex_calm rfl (by rfl) (fun K hK => ?_); apply Exists.intro; refine ⟨fun W' hW => ?_, ?_⟩; (dsimp only at hW; go_simp; exact rfl); go_simp; refine hK _ ?_; clear hK K)
            refine MJ.lex_made (by rfl) rfl ?_ ?_
            · rintro D vs W hM hD hcl hdep
              have FIN := hide (hM.opC (by decide) (by decide) (hdep 27 (by decide +kernel)))
              clear hM
              simp [go_sem, evS, List.lookup]
              exact FIN.out
            refine MJ.lex_nil ?_
            rintro us w6 hM
            have ⟨e1, hO6, hB6⟩ := hM.at_end
            have O6 := hide hO6
            have B6 := hide hB6
            clear hM hO6 hB6 JQ BB OO
            simp only [fillS, List.foldl_cons, List.foldl_nil, e1]
            generalize us 27 = v6 at *
            clear e1
            have O7 : Hid (w6.ownsRow w.heap.size 3 1 v6 (k + 1) (vals (k + 1) (piF l o))) := by
              show World.ownsRow _ _ _ _ _ _ _
              rw [← EV.out]; exact O6.out
            clear O6 EV
            go_wp2_with fail
            go_roundg (n - k)
            case measure => exact hg
            case rel => exact ⟨k + 1, v6, rfl, by go_num, by omega, by omega, OK2, O7, B6⟩
end Go.Proofs.Ytbmkamnjjfmdiaa
