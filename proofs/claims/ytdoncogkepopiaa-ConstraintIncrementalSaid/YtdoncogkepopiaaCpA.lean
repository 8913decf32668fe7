/- What within, valid and check of package constraint return; no condition but on the lengths of lists. -/
import Derived.Test.YtdoncogkepopiaaCoR1
import Derived.Test.YtdoncogkepopiaaCoS
namespace Go.Proofs.Ytdoncogkepopiaa
open Go.RowKit Go.Sort
set_option linter.unusedVariables false
set_option linter.unusedSimpArgs false

theorem cwithin_yes (x lo hi : Int) (h1 : lo ≤ x) (h2 : x ≤ hi) (w : World) :
    Calls Try.prog 31 #[.int .i64 x, .int .i64 lo, .int .i64 hi] w fun e w' => e = .returned (.bool true) ∧ w = w' := by
  go_enter Try.func31, Try.ntmps31
  go_wp2
  go_ret
  exact ⟨rfl, rfl⟩
theorem cwithin_no (x lo hi : Int) (h : ¬ (lo ≤ x ∧ x ≤ hi)) (w : World) :
    Calls Try.prog 31 #[.int .i64 x, .int .i64 lo, .int .i64 hi] w fun e w' => e = .returned (.bool false) ∧ w = w' := by
  by_cases h1 : lo ≤ x
  · have h2 : ¬ x ≤ hi := fun q => h ⟨h1, q⟩
    clear h
    go_enter Try.func31, Try.ntmps31
    go_wp2
    go_ret
    exact ⟨rfl, rfl⟩
  · clear h
    go_enter Try.func31, Try.ntmps31
    go_wp2
    go_ret
    exact ⟨rfl, rfl⟩
theorem okCB_yes {vars : Int} {x : Cn} (h : okC vars x) : okCB vars x = true := (okCB_iff vars x).2 h
theorem okCB_no {vars : Int} {x : Cn} (h : ¬ okC vars x) : okCB vars x = false := by
  cases q : okCB vars x with
  | false => rfl
  | true => exact absurd ((okCB_iff vars x).1 q) h
set_option maxHeartbeats 8000000 in
set_option maxRecDepth 100000 in
theorem pvalid_any (nv : Nat) (hn : nv ≤ 64) (x : Cn) (w : World) :
    Calls Try.prog 33 #[cnU x, .int .i64 (nv : Int)] w fun e w' => e = .returned (.bool (okCB nv x)) ∧ Below w.heap.size w w' := by
  have G := hide (fun o => (Below.refl w.heap.size w).alloc (Nat.le_refl _) o)
  have YES : Hid (okC nv x → okCB nv x = true) := fun h => okCB_yes h
  have NO : Hid (¬ okC nv x → okCB nv x = false) := fun h => okCB_no h
  generalize okCB nv x = v at *
  obtain ⟨x0, x1, x2, x3, x4⟩ := x
  unfold okC at YES NO
  dsimp only at *
  have e1 : IntKind.i64.wrap ((nv : Int) - 1) = (nv : Int) - 1 := wr (by omega) (by omega)
  by_cases a0 : (-1) ≤ x0 ∧ x0 ≤ ((nv : Int) - 1)
  case neg =>
    have e9 := NO.out (by omega)
    have K0 := fun W => hide (cwithin_no x0 (-1) ((nv : Int) - 1) a0 W)
    clear YES NO a0
    subst e9
    go_enter Try.func33, Try.ntmps33
    go_wp2_with fail
    refine (K0 _).out.mono ?_
    rintro e w' ⟨rfl, rfl⟩
    go_wp2_with fail
    go_ret
    exact ⟨rfl, G.out _⟩
  by_cases a1 : (-1) ≤ x1 ∧ x1 ≤ ((nv : Int) - 1)
  case neg =>
    have e9 := NO.out (by omega)
    have K0 := fun W => hide (cwithin_yes x0 (-1) ((nv : Int) - 1) a0.1 a0.2 W)
    have K1 := fun W => hide (cwithin_no x1 (-1) ((nv : Int) - 1) a1 W)
    clear YES NO a0 a1
    subst e9
    go_enter Try.func33, Try.ntmps33
    go_wp2_with fail
    refine (K0 _).out.mono ?_
    rintro e w' ⟨rfl, rfl⟩
    go_wp2_with fail
    refine (K1 _).out.mono ?_
    rintro e w' ⟨rfl, rfl⟩
    go_wp2_with fail
    go_ret
    exact ⟨rfl, G.out _⟩
  by_cases a2 : 0 ≤ x2 ∧ x2 ≤ 2
  case neg =>
    have e9 := NO.out (by omega)
    have K0 := fun W => hide (cwithin_yes x0 (-1) ((nv : Int) - 1) a0.1 a0.2 W)
    have K1 := fun W => hide (cwithin_yes x1 (-1) ((nv : Int) - 1) a1.1 a1.2 W)
    have K2 := fun W => hide (cwithin_no x2 0 2 a2 W)
    clear YES NO a0 a1 a2
    subst e9
    go_enter Try.func33, Try.ntmps33
    go_wp2_with fail
    refine (K0 _).out.mono ?_
    rintro e w' ⟨rfl, rfl⟩
    go_wp2_with fail
    refine (K1 _).out.mono ?_
    rintro e w' ⟨rfl, rfl⟩
    go_wp2_with fail
    refine (K2 _).out.mono ?_
    rintro e w' ⟨rfl, rfl⟩
    go_wp2_with fail
    go_ret
    exact ⟨rfl, G.out _⟩
  by_cases a3 : (-1048576) ≤ x3 ∧ x3 ≤ 1048576
  case neg =>
    have e9 := NO.out (by omega)
    have K0 := fun W => hide (cwithin_yes x0 (-1) ((nv : Int) - 1) a0.1 a0.2 W)
    have K1 := fun W => hide (cwithin_yes x1 (-1) ((nv : Int) - 1) a1.1 a1.2 W)
    have K2 := fun W => hide (cwithin_yes x2 0 2 a2.1 a2.2 W)
    have K3 := fun W => hide (cwithin_no x3 (-1048576) 1048576 a3 W)
    clear YES NO a0 a1 a2 a3
    subst e9
    go_enter Try.func33, Try.ntmps33
    go_wp2_with fail
    refine (K0 _).out.mono ?_
    rintro e w' ⟨rfl, rfl⟩
    go_wp2_with fail
    refine (K1 _).out.mono ?_
    rintro e w' ⟨rfl, rfl⟩
    go_wp2_with fail
    refine (K2 _).out.mono ?_
    rintro e w' ⟨rfl, rfl⟩
    go_wp2_with fail
    refine (K3 _).out.mono ?_
    rintro e w' ⟨rfl, rfl⟩
    go_wp2_with fail
    go_ret
    exact ⟨rfl, G.out _⟩
  by_cases a4 : 0 ≤ x4 ∧ x4 ≤ 3
  case neg =>
    have e9 := NO.out (by omega)
    have K0 := fun W => hide (cwithin_yes x0 (-1) ((nv : Int) - 1) a0.1 a0.2 W)
    have K1 := fun W => hide (cwithin_yes x1 (-1) ((nv : Int) - 1) a1.1 a1.2 W)
    have K2 := fun W => hide (cwithin_yes x2 0 2 a2.1 a2.2 W)
    have K3 := fun W => hide (cwithin_yes x3 (-1048576) 1048576 a3.1 a3.2 W)
    have K4 := fun W => hide (cwithin_no x4 0 3 a4 W)
    clear YES NO a0 a1 a2 a3 a4
    subst e9
    go_enter Try.func33, Try.ntmps33
    go_wp2_with fail
    refine (K0 _).out.mono ?_
    rintro e w' ⟨rfl, rfl⟩
    go_wp2_with fail
    refine (K1 _).out.mono ?_
    rintro e w' ⟨rfl, rfl⟩
    go_wp2_with fail
    refine (K2 _).out.mono ?_
    rintro e w' ⟨rfl, rfl⟩
    go_wp2_with fail
    refine (K3 _).out.mono ?_
    rintro e w' ⟨rfl, rfl⟩
    go_wp2_with fail
    refine (K4 _).out.mono ?_
    rintro e w' ⟨rfl, rfl⟩
    go_wp2_with fail
    go_ret
    exact ⟨rfl, G.out _⟩
  have e9 := YES.out (by omega)
  have K0 := fun W => hide (cwithin_yes x0 (-1) ((nv : Int) - 1) a0.1 a0.2 W)
  have K1 := fun W => hide (cwithin_yes x1 (-1) ((nv : Int) - 1) a1.1 a1.2 W)
  have K2 := fun W => hide (cwithin_yes x2 0 2 a2.1 a2.2 W)
  have K3 := fun W => hide (cwithin_yes x3 (-1048576) 1048576 a3.1 a3.2 W)
  have K4 := fun W => hide (cwithin_yes x4 0 3 a4.1 a4.2 W)
  clear YES NO a0 a1 a2 a3 a4
  subst e9
  go_enter Try.func33, Try.ntmps33
  go_wp2_with fail
  refine (K0 _).out.mono ?_
  rintro e w' ⟨rfl, rfl⟩
  go_wp2_with fail
  refine (K1 _).out.mono ?_
  rintro e w' ⟨rfl, rfl⟩
  go_wp2_with fail
  refine (K2 _).out.mono ?_
  rintro e w' ⟨rfl, rfl⟩
  go_wp2_with fail
  refine (K3 _).out.mono ?_
  rintro e w' ⟨rfl, rfl⟩
  go_wp2_with fail
  refine (K4 _).out.mono ?_
  rintro e w' ⟨rfl, rfl⟩
  go_wp2_with fail
  go_ret
  exact ⟨rfl, G.out _⟩
noncomputable def ckF (vars : Int) (m : Nat) (l : Nat → Cn) : Int := open Classical in
  if vars < 0 ∨ 64 < vars then 1 else if 200 < m then 2 else if ¬ (∀ k, k < m → okC vars (l k)) then 1 else 0
set_option maxHeartbeats 8000000 in
set_option maxRecDepth 100000 in
theorem pcheck_any (vars : Int) (p : Option Addr) (m c : Nat) (l : Nat → Cn) (w : World) (hp : SRow w p m 5 (cnC l)) (hm : m ≤ 100000) :
    Calls Try.prog 23 #[.int .i64 vars, .slice p m c] w fun e w' => e = .returned (.int .i64 (ckF vars m l)) ∧ Below w.heap.size w w' := by
  by_cases hv : 0 ≤ vars ∧ vars ≤ 64
  case neg =>
    have e9 : ckF vars m l = 1 := by unfold ckF; rw [if_pos (by omega)]
    have K := fun W => hide (cwithin_no vars 0 64 hv W)
    rw [e9]
    clear hp e9 hv
    go_enter Try.func23, Try.ntmps23
    go_wp2_with fail
    refine (K _).out.mono ?_
    rintro e w' ⟨rfl, rfl⟩
    go_wp2_with fail
    go_ret
    exact ⟨rfl, Below.refl _ _⟩
  have K := fun W => hide (cwithin_yes vars 0 64 hv.1 hv.2 W)
  by_cases hl : 200 < m
  · have e9 : ckF vars m l = 2 := by unfold ckF; rw [if_neg (by omega), if_pos hl]
    have hz : (200 : Int) < (m : Int) := by omega
    rw [e9]
    clear hp e9 hv
    go_enter Try.func23, Try.ntmps23
    go_wp2_with fail
    refine (K _).out.mono ?_
    rintro e w' ⟨rfl, rfl⟩
    go_wp2_with fail
    go_ret
    exact ⟨rfl, Below.refl _ _⟩
  have hz : ¬ (200 : Int) < (m : Int) := by omega
  obtain ⟨nv, rfl⟩ : ∃ nv : Nat, vars = (nv : Int) := ⟨vars.toNat, by omega⟩
  have hnv : nv ≤ 64 := by omega
  have NO : Hid (¬ (∀ k, k < m → okC nv (l k)) → ckF nv m l = 1) := fun h => by unfold ckF; rw [if_neg (by omega), if_neg hl, if_pos h]
  have YES : Hid ((∀ k, k < m → okC nv (l k)) → ckF nv m l = 0) := fun h => by unfold ckF; rw [if_neg (by omega), if_neg hl, if_neg (fun q => q h)]
  generalize ckF nv m l = er at *
  have HP := hide hp
  clear hp hv
  go_enter Try.func23, Try.ntmps23
  go_wp2_with fail
  refine (K _).out.mono ?_
  rintro e w' ⟨rfl, rfl⟩
  clear K
  go_wp2_with fail
  go_loopg [15] (m + 1) (fun g1 vk wr => ∃ k : Nat, vk = .int .i64 (k : Int) ∧ k ≤ m ∧ m - k < g1 ∧ Hid (Below w.heap.size w wr) ∧ Hid (∀ i, i < k → okC nv (l i)))
  case atStart => exact ⟨0, by go_num, by omega, by omega, Below.refl _ _, fun i hi => absurd hi (Nat.not_lt_zero _)⟩
  case round =>
    obtain ⟨wo, rfl⟩ : ∃ wo : World, wo = wr := ⟨_, rfl⟩
    obtain ⟨k, rfl, hk, hgg, B, OK⟩ := hrel
    by_cases hlt : k < m
    · have hltz : (k : Int) < (m : Int) := by omega
      obtain ⟨b, off, rfl, hb, hc⟩ := (HP.out.below B.out) (by omega)
      have c0 : wo.cell? ⟨b, off + k * 5, none⟩ = some (.int .i64 (l k).a) := hc k hlt 0 (by decide)
      have c1 : wo.cell? ⟨b, off + k * 5 + 1, none⟩ = some (.int .i64 (l k).b) := hc k hlt 1 (by decide)
      have c2 : wo.cell? ⟨b, off + k * 5 + 2, none⟩ = some (.int .i64 (l k).rel) := hc k hlt 2 (by decide)
      have c3 : wo.cell? ⟨b, off + k * 5 + 3, none⟩ = some (.int .i64 (l k).cc) := hc k hlt 3 (by decide)
      have c4 : wo.cell? ⟨b, off + k * 5 + 4, none⟩ = some (.int .i64 (l k).st) := hc k hlt 4 (by decide)
      have BA : Hid (∀ o w', Below (wo.alloc o).heap.size (wo.alloc o) w' → Below w.heap.size w w') := fun o w' h => (B.out.alloc B.out.size o).trans (h.mono (by rw [World.size_alloc]; have := B.out.size; omega))
      have V := fun W => hide (pvalid_any nv hnv (l k) W)
      have BAD : Hid (okCB nv (l k) = false → er = 1) := fun h => NO.out fun ho => by
        have := okCB_yes (ho k hlt)
        rw [h] at this
        exact Bool.noConfusion this
      have GOOD : Hid (okCB nv (l k) = true → ∀ i, i < k + 1 → okC nv (l i)) := fun h i hi => by
        rcases Nat.lt_or_ge i k with h1 | h1
        · exact OK.out i h1
        · rw [show i = k by omega]; exact (okCB_iff _ _).1 h
      clear hc hb B OK
      generalize okCB nv (l k) = v at *
      generalize hy0 : l k = y at *
      clear hy0
      obtain ⟨y0, y1, y2, y3, y4⟩ := y
      dsimp only at *
      cases v
      · have e1 := BAD.out rfl
        clear BAD GOOD
        go_wp2_with fail
        refine (V _).out.mono ?_
        rintro e w' ⟨rfl, hB2⟩
        have B2 := hide (BA.out _ _ hB2)
        clear V hB2 BA
        go_wp2_with fail
        go_ret
        exact ⟨by first | exact ret_int e1.symm | exact ret_int rfl, B2.out⟩
      · have GG := hide (GOOD.out rfl)
        clear BAD GOOD
        go_wp2_with fail
        refine (V _).out.mono ?_
        rintro e w' ⟨rfl, hB2⟩
        have B2 := hide (BA.out _ _ hB2)
        clear V hB2 BA
        go_wp2_with fail
        go_roundg (m - k)
        case measure => exact hgg
        case rel => exact ⟨k + 1, by go_num, by omega, by omega, B2, GG⟩
    · have hltz : ¬ (k : Int) < (m : Int) := by omega
      obtain rfl : m = k := by omega
      have e1 := YES.out OK.out
      have B0 := hide B.out
      clear B OK YES NO
      go_wp2_with fail
      go_ret
      exact ⟨by first | exact ret_int e1.symm | exact ret_int rfl, B0.out⟩
end Go.Proofs.Ytdoncogkepopiaa
