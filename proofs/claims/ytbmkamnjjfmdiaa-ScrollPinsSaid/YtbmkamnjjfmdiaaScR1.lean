/- What within, size, Clamp, Reveal, rows, index and Tops of the reference of scroll return; no condition but on sizes. -/
import Derived.Test.YtbmkamnjjfmdiaaScM
import Derived.Test.YtbmkamnjjfmdiaaCRw

import Derived.BigQuiet
namespace Go.Proofs.Ytbmkamnjjfmdiaa
open Go.RowKit Go.Sort
set_option linter.unusedVariables false
set_option linter.unusedSimpArgs false

theorem swi_at (x : Int) (b : Bool) (h : inRB x = b) (w : World) : Calls Try.prog 24 #[.int .i64 x] w fun e w' => e = .returned (.bool b) ∧ w = w' := by
  subst h
  unfold inRB
  by_cases h1 : (-1099511627776) ≤ x
  · by_cases h2 : x ≤ 1099511627776
    · rw [decide_eq_true h1, decide_eq_true h2]
      go_enter Try.func24, Try.ntmps24
      go_wp2
      go_ret
      exact ⟨rfl, rfl⟩
    · rw [decide_eq_true h1, decide_eq_false h2]
      go_enter Try.func24, Try.ntmps24
      go_wp2
      go_ret
      exact ⟨rfl, rfl⟩
  · rw [decide_eq_false h1]
    go_enter Try.func24, Try.ntmps24
    go_wp2
    go_ret
    exact ⟨rfl, rfl⟩
theorem ssz_at (x : Int) (b : Bool) (h : szRB x = b) (w : World) : Calls Try.prog 25 #[.int .i64 x] w fun e w' => e = .returned (.bool b) ∧ w = w' := by
  subst h
  unfold szRB
  by_cases h1 : 0 ≤ x
  · by_cases h2 : x ≤ 1099511627776
    · rw [decide_eq_true h1, decide_eq_true h2]
      go_enter Try.func25, Try.ntmps25
      go_wp2
      go_ret
      exact ⟨rfl, rfl⟩
    · rw [decide_eq_true h1, decide_eq_false h2]
      go_enter Try.func25, Try.ntmps25
      go_wp2
      go_ret
      exact ⟨rfl, rfl⟩
  · rw [decide_eq_false h1]
    go_enter Try.func25, Try.ntmps25
    go_wp2
    go_ret
    exact ⟨rfl, rfl⟩
set_option maxHeartbeats 2000000 in
theorem rcl_any (o c h : Int) (w : World) : Calls Try.prog 15 #[.int .i64 o, .int .i64 c, .int .i64 h] w fun e w' => e = .returned (.int .i64 (ocF o c h)) ∧ w = w' := by
  cases h0 : inRB o with
  | false =>
    have K0 := fun W => hide (swi_at o false h0 W)
    rw [show ocF o c h = 0 by simp [ocF, h0]]
    clear h0
    go_enter Try.func15, Try.ntmps15
    go_wp2_with fail
    refine (K0 _).out.mono ?_
    rintro e w' ⟨rfl, rfl⟩
    go_wp2_with fail
    go_ret
    exact ⟨rfl, rfl⟩
  | true =>
    cases h1 : inRB c with
    | false =>
      have K0 := fun W => hide (swi_at o true h0 W)
      have K1 := fun W => hide (swi_at c false h1 W)
      rw [show ocF o c h = 0 by simp [ocF, h0, h1]]
      clear h0 h1
      go_enter Try.func15, Try.ntmps15
      go_wp2_with fail
      refine (K0 _).out.mono ?_
      rintro e w' ⟨rfl, rfl⟩
      go_wp2_with fail
      refine (K1 _).out.mono ?_
      rintro e w' ⟨rfl, rfl⟩
      go_wp2_with fail
      go_ret
      exact ⟨rfl, rfl⟩
    | true =>
      cases h2 : szRB h with
      | false =>
        have K0 := fun W => hide (swi_at o true h0 W)
        have K1 := fun W => hide (swi_at c true h1 W)
        have K2 := fun W => hide (ssz_at h false h2 W)
        rw [show ocF o c h = 0 by simp [ocF, h0, h1, h2]]
        clear h0 h1 h2
        go_enter Try.func15, Try.ntmps15
        go_wp2_with fail
        refine (K0 _).out.mono ?_
        rintro e w' ⟨rfl, rfl⟩
        go_wp2_with fail
        refine (K1 _).out.mono ?_
        rintro e w' ⟨rfl, rfl⟩
        go_wp2_with fail
        refine (K2 _).out.mono ?_
        rintro e w' ⟨rfl, rfl⟩
        go_wp2_with fail
        go_ret
        exact ⟨rfl, rfl⟩
      | true =>
        have K0 := fun W => hide (swi_at o true h0 W)
        have K1 := fun W => hide (swi_at c true h1 W)
        have K2 := fun W => hide (ssz_at h true h2 W)
        have e : ocF o c h = if c ≤ h then 0 else clampS o 0 (c - h) := by simp [ocF, h0, h1, h2]
        obtain ⟨o1, o2⟩ := inR_iff.1 h0
        obtain ⟨c1, c2⟩ := inR_iff.1 h1
        obtain ⟨z1, z2⟩ := szR_iff.1 h2
        rw [e]
        clear e h0 h1 h2
        by_cases hle : c ≤ h
        · rw [if_pos hle]
          have d : decide (c ≤ h) = true := decide_eq_true hle
          go_enter Try.func15, Try.ntmps15
          go_wp2_with fail
          refine (K0 _).out.mono ?_
          rintro e w' ⟨rfl, rfl⟩
          go_wp2_with fail
          refine (K1 _).out.mono ?_
          rintro e w' ⟨rfl, rfl⟩
          go_wp2_with fail
          refine (K2 _).out.mono ?_
          rintro e w' ⟨rfl, rfl⟩
          go_wp2_with fail
          go_ret
          exact ⟨rfl, rfl⟩
        · rw [if_neg hle]
          have d : decide (c ≤ h) = false := decide_eq_false hle
          have wc : IntKind.i64.wrap (c - h) = c - h := wr (by omega) (by omega)
          have KC := fun W => hide (rClamp_any o 0 (c - h) W)
          go_enter Try.func15, Try.ntmps15
          go_wp2_with fail
          refine (K0 _).out.mono ?_
          rintro e w' ⟨rfl, rfl⟩
          go_wp2_with fail
          refine (K1 _).out.mono ?_
          rintro e w' ⟨rfl, rfl⟩
          go_wp2_with fail
          refine (K2 _).out.mono ?_
          rintro e w' ⟨rfl, rfl⟩
          go_wp2_with fail
          refine (KC _).out.mono ?_
          rintro e w' ⟨rfl, hw⟩
          subst hw
          go_wp2_with fail
          go_ret
          exact ⟨rfl, rfl⟩
set_option maxHeartbeats 4000000 in
theorem rre_any (o h a x : Int) (w : World) : Calls Try.prog 17 #[.int .i64 o, .int .i64 h, .int .i64 a, .int .i64 x] w fun e w' => e = .returned (.int .i64 (reF o h a x)) ∧ w = w' := by
  cases h0 : inRB o with
  | false =>
    have K0 := fun W => hide (swi_at o false h0 W)
    rw [show reF o h a x = 0 by simp [reF, h0]]
    clear h0
    go_enter Try.func17, Try.ntmps17
    go_wp2_with fail
    refine (K0 _).out.mono ?_
    rintro e w' ⟨rfl, rfl⟩
    go_wp2_with fail
    go_ret
    exact ⟨rfl, rfl⟩
  | true =>
    cases h1 : szRB h with
    | false =>
      have K0 := fun W => hide (swi_at o true h0 W)
      have K1 := fun W => hide (ssz_at h false h1 W)
      rw [show reF o h a x = 0 by simp [reF, h0, h1]]
      clear h0 h1
      go_enter Try.func17, Try.ntmps17
      go_wp2_with fail
      refine (K0 _).out.mono ?_
      rintro e w' ⟨rfl, rfl⟩
      go_wp2_with fail
      refine (K1 _).out.mono ?_
      rintro e w' ⟨rfl, rfl⟩
      go_wp2_with fail
      go_ret
      exact ⟨rfl, rfl⟩
    | true =>
      cases h2 : inRB a with
      | false =>
        have K0 := fun W => hide (swi_at o true h0 W)
        have K1 := fun W => hide (ssz_at h true h1 W)
        have K2 := fun W => hide (swi_at a false h2 W)
        rw [show reF o h a x = 0 by simp [reF, h0, h1, h2]]
        clear h0 h1 h2
        go_enter Try.func17, Try.ntmps17
        go_wp2_with fail
        refine (K0 _).out.mono ?_
        rintro e w' ⟨rfl, rfl⟩
        go_wp2_with fail
        refine (K1 _).out.mono ?_
        rintro e w' ⟨rfl, rfl⟩
        go_wp2_with fail
        refine (K2 _).out.mono ?_
        rintro e w' ⟨rfl, rfl⟩
        go_wp2_with fail
        go_ret
        exact ⟨rfl, rfl⟩
      | true =>
        cases h3 : inRB x with
        | false =>
          have K0 := fun W => hide (swi_at o true h0 W)
          have K1 := fun W => hide (ssz_at h true h1 W)
          have K2 := fun W => hide (swi_at a true h2 W)
          have K3 := fun W => hide (swi_at x false h3 W)
          rw [show reF o h a x = 0 by simp [reF, h0, h1, h2, h3]]
          clear h0 h1 h2 h3
          go_enter Try.func17, Try.ntmps17
          go_wp2_with fail
          refine (K0 _).out.mono ?_
          rintro e w' ⟨rfl, rfl⟩
          go_wp2_with fail
          refine (K1 _).out.mono ?_
          rintro e w' ⟨rfl, rfl⟩
          go_wp2_with fail
          refine (K2 _).out.mono ?_
          rintro e w' ⟨rfl, rfl⟩
          go_wp2_with fail
          refine (K3 _).out.mono ?_
          rintro e w' ⟨rfl, rfl⟩
          go_wp2_with fail
          go_ret
          exact ⟨rfl, rfl⟩
        | true =>
          have K0 := fun W => hide (swi_at o true h0 W)
          have K1 := fun W => hide (ssz_at h true h1 W)
          have K2 := fun W => hide (swi_at a true h2 W)
          have K3 := fun W => hide (swi_at x true h3 W)
          have e : reF o h a x = if a < o ∨ h < x then a else if o + h < a + x then a + x - h else o := by simp [reF, h0, h1, h2, h3]
          obtain ⟨o1, o2⟩ := inR_iff.1 h0
          obtain ⟨z1, z2⟩ := szR_iff.1 h1
          obtain ⟨a1, a2⟩ := inR_iff.1 h2
          obtain ⟨x1, x2⟩ := inR_iff.1 h3
          have wa : IntKind.i64.wrap (a + x) = a + x := wr (by omega) (by omega)
          have wo : IntKind.i64.wrap (o + h) = o + h := wr (by omega) (by omega)
          have wh : IntKind.i64.wrap (a + x - h) = a + x - h := wr (by omega) (by omega)
          rw [e]
          clear e h0 h1 h2 h3
          by_cases p1 : a < o
          · rw [if_pos (Or.inl p1)]
            have d : decide (a < o) = true := decide_eq_true p1
            go_enter Try.func17, Try.ntmps17
            go_wp2_with fail
            refine (K0 _).out.mono ?_
            rintro e w' ⟨rfl, rfl⟩
            go_wp2_with fail
            refine (K1 _).out.mono ?_
            rintro e w' ⟨rfl, rfl⟩
            go_wp2_with fail
            refine (K2 _).out.mono ?_
            rintro e w' ⟨rfl, rfl⟩
            go_wp2_with fail
            refine (K3 _).out.mono ?_
            rintro e w' ⟨rfl, rfl⟩
            go_wp2_with fail
            go_ret
            exact ⟨rfl, rfl⟩
          have d1 : decide (a < o) = false := decide_eq_false p1
          by_cases p2 : h < x
          · rw [if_pos (Or.inr p2)]
            have d : decide (h < x) = true := decide_eq_true p2
            go_enter Try.func17, Try.ntmps17
            go_wp2_with fail
            refine (K0 _).out.mono ?_
            rintro e w' ⟨rfl, rfl⟩
            go_wp2_with fail
            refine (K1 _).out.mono ?_
            rintro e w' ⟨rfl, rfl⟩
            go_wp2_with fail
            refine (K2 _).out.mono ?_
            rintro e w' ⟨rfl, rfl⟩
            go_wp2_with fail
            refine (K3 _).out.mono ?_
            rintro e w' ⟨rfl, rfl⟩
            go_wp2_with fail
            go_ret
            exact ⟨rfl, rfl⟩
          have d2 : decide (h < x) = false := decide_eq_false p2
          rw [if_neg (fun q => by rcases q with q | q; exact p1 q; exact p2 q)]
          by_cases p3 : o + h < a + x
          · rw [if_pos p3]
            have d : decide (o + h < a + x) = true := decide_eq_true p3
            go_enter Try.func17, Try.ntmps17
            go_wp2_with fail
            refine (K0 _).out.mono ?_
            rintro e w' ⟨rfl, rfl⟩
            go_wp2_with fail
            refine (K1 _).out.mono ?_
            rintro e w' ⟨rfl, rfl⟩
            go_wp2_with fail
            refine (K2 _).out.mono ?_
            rintro e w' ⟨rfl, rfl⟩
            go_wp2_with fail
            refine (K3 _).out.mono ?_
            rintro e w' ⟨rfl, rfl⟩
            go_wp2_with fail
            go_ret
            exact ⟨rfl, rfl⟩
          rw [if_neg p3]
          have d : decide (o + h < a + x) = false := decide_eq_false p3
          go_enter Try.func17, Try.ntmps17
          go_wp2_with fail
          refine (K0 _).out.mono ?_
          rintro e w' ⟨rfl, rfl⟩
          go_wp2_with fail
          refine (K1 _).out.mono ?_
          rintro e w' ⟨rfl, rfl⟩
          go_wp2_with fail
          refine (K2 _).out.mono ?_
          rintro e w' ⟨rfl, rfl⟩
          go_wp2_with fail
          refine (K3 _).out.mono ?_
          rintro e w' ⟨rfl, rfl⟩
          go_wp2_with fail
          go_ret
          exact ⟨rfl, rfl⟩
set_option maxHeartbeats 2000000 in
theorem rrows_any (p : Option Addr) (n c : Nat) (l : Nat → Stp) (w : World) (hp : SRow w p n 2 (stC l)) (hn : n ≤ 9223372036854775807) : Calls Try.prog 26 #[.slice p n c] w fun e w' => e = .returned (.bool (rowsB n l)) ∧ w = w' := by
  by_cases hl : 10000 < n
  · have e : rowsB n l = false := by unfold rowsB; rw [decide_eq_false (by omega)]; rfl
    have hz : (10000 : Int) < (n : Int) := by omega
    rw [e]
    clear hp e
    go_enter Try.func26, Try.ntmps26
    go_wp2_with fail
    go_ret
    exact ⟨rfl, rfl⟩
  have hz : ¬ (10000 : Int) < (n : Int) := by omega
  have HP := hide hp
  have BAD : Hid (∀ i, i < n → szRB (l i).h = false → rowsB n l = false) := fun i hi h => by
    show _ = _
    unfold rowsB
    rw [alF_bad hi h, Bool.and_false]
  have ALL : Hid ((∀ i, i < n → szRB (l i).h = true) → rowsB n l = true) := fun h => by
    show _ = _
    unfold rowsB
    rw [decide_eq_true (show n ≤ 10000 by omega), alF_iff.2 h]; rfl
  generalize rowsB n l = rb at *
  clear hp
  go_enter Try.func26, Try.ntmps26
  go_wp2_with fail
  go_loopg [3] (n + 1) (fun g1 vk wr => ∃ k : Nat, vk = .int .i64 (k : Int) ∧ k ≤ n ∧ n - k < g1 ∧ Hid (∀ i, i < k → szRB (l i).h = true) ∧ wr = w)
  case atStart => exact ⟨0, by go_num, by omega, by omega, fun i hi => absurd hi (Nat.not_lt_zero _), rfl⟩
  case round =>
    obtain ⟨k, rfl, hk, hg, OK, rfl⟩ := hrel
    by_cases hlt : k < n
    · have hltz : (k : Int) < (n : Int) := by omega
      have hk0 : (0 : Int) ≤ (k : Int) := by omega
      obtain ⟨b, off, rfl, hb, hc⟩ := HP.out (by omega)
      have c1 : wr.cell? ⟨b, off + k * 2 + 1, none⟩ = some (.int .i64 (l k).h) := hc k hlt 1 (by decide)
      cases hs : szRB (l k).h with
      | false =>
        have e9 := BAD.out k hlt hs
        have K := fun W => hide (ssz_at (l k).h false hs W)
        clear BAD ALL OK hc hb hs
        subst e9
        generalize (l k).h = y at *
        go_wp2_with fail
        refine (K _).out.mono ?_
        rintro e w' ⟨rfl, rfl⟩
        go_wp2_with fail
        go_ret
        exact ⟨rfl, rfl⟩
      | true =>
        have K := fun W => hide (ssz_at (l k).h true hs W)
        have OK2 : Hid (∀ i, i < k + 1 → szRB (l i).h = true) := fun i hi => by
          by_cases e : i = k
          · subst e; exact hs
          · exact OK.out i (by omega)
        clear BAD ALL OK hc hb hs
        generalize (l k).h = y at *
        go_wp2_with fail
        refine (K _).out.mono ?_
        rintro e w' ⟨rfl, rfl⟩
        go_wp2_with fail
        go_roundg (n - k)
        case measure => exact hg
        case rel => exact ⟨k + 1, by go_num, by omega, by omega, OK2, rfl⟩
    · have hltz : ¬ (k : Int) < (n : Int) := by omega
      obtain rfl : n = k := by omega
      have e9 := ALL.out OK.out
      clear BAD ALL OK
      subst e9
      go_wp2_with fail
      go_ret
      exact ⟨rfl, rfl⟩
/-- What index returns. -/
def iiF (m : Nat) (l' : Nat → Stp) (k : ByteArray) : Int := if ixF m l' k < m then (ixF m l' k : Int) else -1
theorem ix_at {m j : Nat} {l' : Nat → Stp} {k : ByteArray} (hj : j < m) (h : ∀ i, i < j → eqK (l' i).k k = false) (h2 : eqK (l' j).k k = true) : ixF m l' k = j := by
  unfold ixF
  exact fsF_eq (Nat.zero_le _) (by omega) (fun i _ hi => h i hi) (Or.inr h2)
theorem ix_none {m : Nat} {l' : Nat → Stp} {k : ByteArray} (h : ∀ i, i < m → eqK (l' i).k k = false) : ixF m l' k = m := by
  unfold ixF
  exact fsF_eq (Nat.zero_le _) (by omega) (fun i _ hi => h i hi) (Or.inl (by omega))
set_option maxHeartbeats 2000000 in
theorem rix_any (p : Option Addr) (m c : Nat) (l' : Nat → Stp) (k : ByteArray) (w : World) (hp : SRow w p m 2 (stC l')) (hm : m ≤ 9223372036854775807) : Calls Try.prog 32 #[.slice p m c, .string k] w fun e w' => e = .returned (.int .i64 (iiF m l' k)) ∧ w = w' := by
  have HP := hide hp
  have YES : Hid (∀ j, j < m → (∀ i, i < j → eqK (l' i).k k = false) → eqK (l' j).k k = true → iiF m l' k = (j : Int)) := fun j hj h h2 => by
    show _ = _
    unfold iiF
    rw [ix_at hj h h2, if_pos hj]
  have NO : Hid ((∀ i, i < m → eqK (l' i).k k = false) → iiF m l' k = -1) := fun h => by
    show _ = _
    unfold iiF
    rw [ix_none h, if_neg (Nat.lt_irrefl _)]
  generalize iiF m l' k = r at *
  clear hp
  go_enter Try.func32, Try.ntmps32
  go_wp2_with fail
  go_loopg [5] (m + 1) (fun g1 vk wr => ∃ j : Nat, vk = .int .i64 (j : Int) ∧ j ≤ m ∧ m - j < g1 ∧ Hid (∀ i, i < j → eqK (l' i).k k = false) ∧ wr = w)
  case atStart => exact ⟨0, by go_num, by omega, by omega, fun i hi => absurd hi (Nat.not_lt_zero _), rfl⟩
  case round =>
    obtain ⟨j, rfl, hj, hg, OK, rfl⟩ := hrel
    by_cases hlt : j < m
    · have hltz : (j : Int) < (m : Int) := by omega
      have hj0 : (0 : Int) ≤ (j : Int) := by omega
      obtain ⟨b, off, rfl, hb, hc⟩ := HP.out (by omega)
      have c1 : wr.cell? ⟨b, off + j * 2, none⟩ = some (.string (l' j).k) := hc j hlt 0 (by decide)
      cases hs : eqK (l' j).k k with
      | false =>
        have OK2 : Hid (∀ i, i < j + 1 → eqK (l' i).k k = false) := fun i hi => by
          by_cases e : i = j
          · subst e; exact hs
          · exact OK.out i (by omega)
        have hs2 : ((l' j).k.toList == k.toList) = false := hs
        clear YES NO OK hc hb hs
        generalize (l' j).k = y at *
        go_wp2_with fail
        go_roundg (m - j)
        case measure => exact hg
        case rel => exact ⟨j + 1, by go_num, by omega, by omega, OK2, rfl⟩
      | true =>
        have e9 := YES.out j hlt OK.out hs
        have hs2 : ((l' j).k.toList == k.toList) = true := hs
        clear YES NO OK hc hb hs
        subst e9
        generalize (l' j).k = y at *
        go_wp2_with fail
        go_ret
        exact ⟨rfl, rfl⟩
    · have hltz : ¬ (j : Int) < (m : Int) := by omega
      obtain rfl : m = j := by omega
      have e9 := NO.out OK.out
      clear YES NO OK
      subst e9
      go_wp2_with fail
      go_ret
      exact ⟨rfl, rfl⟩
end Go.Proofs.Ytbmkamnjjfmdiaa
