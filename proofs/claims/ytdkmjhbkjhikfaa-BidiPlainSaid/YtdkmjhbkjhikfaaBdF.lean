/- What Order of the references does; and the references' comparison of two lists. -/
import Derived.Test.YtdkmjhbkjhikfaaBdO
namespace Go.Proofs.Ytdkmjhbkjhikfaa
open Go.RowKit Go.Sort
set_option linter.unusedVariables false
set_option linter.unusedSimpArgs false

set_option maxHeartbeats 1000000 in
theorem equal_yes (p q : Option Addr) (n c1 c2 : Nat) (f : Nat → Int) (w : World) (hn : n ≤ 1048576) (h1 : Reads w p n f) (h2 : Reads w q n f) :
    Calls Try.prog 15 #[.slice p n c1, .slice q n c2] w fun e w' => e = .returned (.bool true) ∧ Grew w w' := by
  have H1 := hide h1
  have H2 := hide h2
  clear h1 h2
  go_enter Try.func15, Try.ntmps15
  go_wp2
  go_loopg [5] (n + 1) (fun g1 vk wr => ∃ k : Nat, vk = .int .i64 k ∧ k ≤ n ∧ n - k < g1 ∧ Hid (Grew w wr))
  case atStart => exact ⟨0, by go_num, by omega, by omega, Grew.refl _⟩
  case round =>
    obtain ⟨k, rfl, hk, hg, HW⟩ := hrel
    by_cases hlt : k < n
    · have hltz : (k : Int) < (n : Int) := by omega
      obtain ⟨b, off, rfl, hb⟩ := (H1.out.grew HW.out) (by omega)
      obtain ⟨b', off', rfl, hb'⟩ := (H2.out.grew HW.out) (by omega)
      have c1 := hb k hlt
      have c2 := hb' k hlt
      clear hb hb'
      go_wp2
      go_quiet (fail)
      have HW' := hide (HW.out.drewN nq)
      clear HW c1 c2
      generalize wr.drewN nq = w2 at HW' ⊢
      go_wp2
      go_roundg (n - k)
      case measure => omega
      case rel => exact ⟨k + 1, by go_num, by omega, by omega, HW'⟩
    · have hltz : ¬ (k : Int) < (n : Int) := by omega
      go_wp2
      go_ret
      exact ⟨rfl, HW.out⟩

/-- Up to here the places have been filled in; all levels so far are in range. -/
def QF (ob n : Nat) (f : Nat → Int) (w : World) (k : Nat) (wr : World) : Prop := Grew w wr ∧ IRow wr ob n (upto k idF (fun _ => 0))
/-- In the midst of one level. -/
def RG (ob n : Nat) (f o : Nat → Int) (L : Nat) (w : World) (i : Nat) (wr : World) : Prop :=
  Grew w wr ∧ ∃ Y, IRow wr ob n Y ∧ PartO f n (L : Int) i o Y ∧ (i = 0 ∨ f (i - 1) < (L : Int) ∨ (i < n → f i < (L : Int)))
theorem OrdR.looks {f o : Nat → Int} {n L : Nat} (h : OrdR f n (L + 1) o) (hf : InR f n) : ∀ i, i < n → ∃ k : Nat, o i = (k : Int) ∧ k < n ∧ (f k < (L : Int) ↔ f i < (L : Int)) := fun i hi => by
  obtain ⟨h1, h2⟩ := h.keeps (fun j hj => by have := (hf j hj).2; omega) i hi
  by_cases e : f i < ((L + 1 : Nat) : Int)
  · exact ⟨i, h1 e, hi, Iff.rfl⟩
  · obtain ⟨k, k1, k2, k3⟩ := h2 e
    exact ⟨k, k1, k2, ⟨fun q => absurd q (by push_cast at k3; omega), fun q => absurd q (by push_cast at e; omega)⟩⟩
/-- The swaps of one list. -/
def SW2 (ob n : Nat) (Y : Nat → Int) (i j t : Nat) (w wr : World) : Prop := But ob w wr ∧ IRow wr ob n (half i j t Y)

set_option maxRecDepth 100000 in
set_option maxHeartbeats 4000000 in
theorem refOrder_any (n c : Nat) (p : Option Addr) (f : Nat → Int) (w : World) (hl : Reads w p n f) (hn : n ≤ 2000) (hf : InR f n) :
    Calls Try.prog 16 #[.slice p n c] w fun e w' => ∃ ob, e = .returned (.slice (some ⟨ob, 0, none⟩) n n) ∧ Grew w w' ∧ w.heap.size ≤ ob ∧ ∃ o, IRow w' ob n o ∧ OrdR f n 1 o := by
  have hmk := make_ints n (by omega) w
  have S0 : Hid (QF w.heap.size n f w 0 (w.alloc (.cells (ints n fun _ => 0) 3))) := ⟨(Grew.refl w).alloc _, (IRow.new w n _).congr fun j _ => (if_neg (by omega)).symm⟩
  have HL := hide hl
  have HF := hide hf
  have hnz : ¬ (2000 : Int) < (n : Int) := by omega
  clear hl hf
  go_enter Try.func16, Try.ntmps16
  go_wp2
  clear hmk
  generalize w.alloc (.cells (ints n fun _ => 0) 3) = w1 at *
  go_loopg [4] (n + 1) (fun gh vk wr => ∃ (k : Nat), vk = .int .i64 (k : Int) ∧ k ≤ n ∧ n - k < gh ∧ Hid (QF w.heap.size n f w k wr))
  case atStart => exact ⟨0, by go_num, by omega, by omega, S0⟩
  case round =>
    clear S0
    obtain ⟨wo, rfl⟩ : ∃ wo : World, wo = wr := ⟨_, rfl⟩
    obtain ⟨k, rfl, hk, hg, S⟩ := hrel
    by_cases hlt : k < n
    · have hltz : (k : Int) < (n : Int) := by omega
      obtain ⟨b, off, rfl, hc⟩ := HL.out (by omega)
      have ck : wo.cell? ⟨b, off + k, none⟩ = some (.int .i64 (f k)) := (S.out.1.1.cell (p := ⟨b, off + k, none⟩) (lt_of_cell (hc k hlt))).trans (hc k hlt)
      have oc := S.out.2.cell hlt
      have of := S.out.2.frozen k
      have f1' : ¬ f k < 0 := by have := (HF.out k hlt).1; omega
      have f2' : ¬ (127 : Int) < f k := by have := (HF.out k hlt).2; omega
      have NX : Hid (QF w.heap.size n f w (k + 1) (wo.setCell ⟨w.heap.size, k, none⟩ (.int .i64 (k : Int)))) := ⟨S.out.1.setCell (Nat.le_refl _) _, S.out.2.upto_step⟩
      clear S hc
      go_wp2
      go_roundg (n - k)
      case measure => omega
      case rel => exact ⟨k + 1, by go_num, by omega, by omega, NX⟩
    · have hltz : ¬ (k : Int) < (n : Int) := by omega
      obtain rfl : n = k := by omega
      have S1 : Hid (OL w.heap.size n f w 127 wo) := ⟨S.out.1, Nat.le_refl _, _, S.out.2, .start _ fun i hi => if_pos hi⟩
      clear S
      go_wp2
      go_loopg [5] 128 (fun gh v5 wr => ∃ L : Nat, v5 = .int .i64 (L : Int) ∧ L ≤ 127 ∧ L < gh ∧ Hid (OL w.heap.size n f w L wr))
      case atStart => exact ⟨127, by go_num, by omega, by omega, S1⟩
      case round =>
        clear S1
        obtain ⟨wq, rfl⟩ : ∃ wq : World, wq = wr := ⟨_, rfl⟩
        obtain ⟨L, rfl, hL, hgL, S⟩ := hrel
        by_cases h0 : 0 < L
        · have hz : (0 : Int) < (L : Int) := by omega
          obtain ⟨s1, s2, o, s3, s4⟩ := S.out
          have LK := hide (s4.looks HF.out)
          have R0 : Hid (RG w.heap.size n f o L w 0 wq) := ⟨s1, o, s3, PartO.zero _ _ _ _, Or.inl rfl⟩
          have S4 := hide s4
          clear S s1 s2 s3 s4
          go_wp2
          go_loopg [6] (n + 1) (fun gh v6 wr => ∃ i : Nat, v6 = .int .i64 (i : Int) ∧ i ≤ n ∧ n - i < gh ∧ Hid (RG w.heap.size n f o L w i wr))
          case atStart => exact ⟨0, by go_num, by omega, by omega, R0⟩
          case round =>
            clear R0
            obtain ⟨wi, rfl⟩ : ∃ wi : World, wi = wr := ⟨_, rfl⟩
            obtain ⟨i, rfl, hi, hgi, S⟩ := hrel
            by_cases hin : i < n
            · have hinz : (i : Int) < (n : Int) := by omega
              obtain ⟨s1, Y, s2, s3, s5⟩ := S.out
              obtain ⟨b, off, rfl, hc⟩ := (HL.out.grew s1) (by omega)
              obtain ⟨m, m1, m2, m3⟩ := LK.out i hin
              have yi : Y i = (m : Int) := ((s3 i hin).2 (Nat.le_refl _)).trans m1
              have ci := s2.cell hin
              rw [yi] at ci
              have hm0 : (0 : Int) ≤ (m : Int) := by omega
              have hmn : (m : Int) < (n : Int) := by omega
              have cm := hc m m2
              by_cases hfi : f i < (L : Int)
              · have hfm : f m < (L : Int) := m3.2 hfi
                have NX : Hid (RG w.heap.size n f o L w (i + 1) wi) := ⟨s1, Y, s2, s3.skip hfi, Or.inr (Or.inl hfi)⟩
                clear S s1 s2 s3 s5 hc yi m1 m3 hfi
                go_wp2
                go_roundg (n - i)
                case measure => omega
                case rel => exact ⟨i + 1, by go_num, by omega, by omega, NX⟩
              · have hfm : ¬ f m < (L : Int) := fun q => hfi (m3.1 q)
                have HC := hide hc
                have HY := hide s2
                have HP := hide s3
                have HS1 := hide s1
                have HB := hide s5
                have HFI := hide hfi
                clear S s1 s2 s3 s5 hc yi m1 m3 hfi
                go_wp2
                clear ci cm hfm m2
                go_loop [7] (fun v7 => ∃ j : Nat, i ≤ j ∧ j ≤ n ∧ v7 = .int .i64 (j : Int) ∧ Hid (∀ t, i ≤ t → t < j → ¬ f t < (L : Int))) (fun v7 => n - (intOf v7).toNat)
                case atStart => exact ⟨i, Nat.le_refl _, by omega, rfl, fun t h1 h2 => by omega⟩
                case round =>
                  obtain ⟨j, hij, hj, rfl, HA⟩ := hrel
                  by_cases hjn : j < n
                  · have hjz : (j : Int) < (n : Int) := by omega
                    obtain ⟨m, m1, m2, m3⟩ := LK.out j hjn
                    have yj : Y j = (m : Int) := ((HP.out j hjn).2 hij).trans m1
                    have cj := HY.out.cell hjn
                    rw [yj] at cj
                    have hm0 : (0 : Int) ≤ (m : Int) := by omega
                    have hmn : (m : Int) < (n : Int) := by omega
                    have cm := HC.out m m2
                    by_cases hfj : f j < (L : Int)
                    · have hfm : ¬ (L : Int) ≤ f m := by have := m3.2 hfj; omega
                      have hij' : i < j := by
                        rcases Nat.lt_or_ge i j with h | h
                        · exact h
                        · obtain rfl : i = j := by omega
                          exact absurd hfj (by have := HFI.out; omega)
                      have SEG : Hid (Seg f n (L : Int) i j) := ⟨hij', hj, HA.out, by
                        rcases HB.out with h | h | h
                        · exact Or.inl h
                        · exact Or.inr h
                        · exact absurd (h hin) (by have := HFI.out; omega), Or.inr hfj⟩
                      clear HA yj m1 m3 hfj
                      have hj1 : (j : Int) - 1 = ((j - 1 : Nat) : Int) := by omega
                      have S2 : Hid (SW2 w.heap.size n Y i j 0 wi wi) := ⟨But.refl _ _, HY.out.congr fun k _ => (if_neg (by omega)).symm⟩
                      go_wp2
                      go_loopg [8, 9] (n + 1) (fun gh v8 v9 wr => ∃ p q t : Nat, v8 = .int .i64 (p : Int) ∧ v9 = .int .i64 (q : Int) ∧ p = i + t ∧ (q + t + 1 = j ∧ i ≤ q) ∧ n - t < gh ∧ Hid (SW2 w.heap.size n Y i j t wi wr))
                      case atStart => exact ⟨i, j - 1, 0, by go_num, by go_num, by omega, ⟨by omega, by omega⟩, by omega, S2⟩
                      case round =>
                        clear S2 hj1
                        obtain ⟨wz, rfl⟩ : ∃ wz : World, wz = wr := ⟨_, rfl⟩
                        obtain ⟨p, q, t, rfl, rfl, hp, ⟨hq, hiq⟩, hgt, S⟩ := hrel
                        by_cases hpq : p < q
                        · have hpz : (p : Int) < (q : Int) := by omega
                          have hp0 : (0 : Int) ≤ (p : Int) := by omega
                          have hq0 : (0 : Int) ≤ (q : Int) := by omega
                          have hpn : (p : Int) < (n : Int) := by omega
                          have hqn : (q : Int) < (n : Int) := by omega
                          have cp := S.out.2.cell (i := p) (by omega)
                          have cq := S.out.2.cell (i := q) (by omega)
                          have fp := S.out.2.frozen p
                          have fq := S.out.2.frozen q
                          have ne : ¬ p = q := by omega
                          have ne' : ¬ q = p := by omega
                          have hq1 : (q : Int) - 1 = ((q - 1 : Nat) : Int) := by omega
                          have NX : Hid (SW2 w.heap.size n Y i j (t + 1) wi (((wz.setCell ⟨w.heap.size, p, none⟩ (.int .i64 (half i j t Y q))).setCell ⟨w.heap.size, q, none⟩ (.int .i64 (half i j t Y p))).drew)) :=
                            ⟨((S.out.1.setCell rfl _).setCell rfl _).drew, (show IRow ((wz.setCell ⟨w.heap.size, p, none⟩ (.int .i64 (half i j t Y q))).setCell ⟨w.heap.size, q, none⟩ (.int .i64 (half i j t Y p))) w.heap.size n (half i j (t + 1) Y) from
                              ((S.out.2.set_ p _).set_ q _).congr fun k hk => by
                                have := half_step Y (a := i) (b := j) (i := t) (j := q - i) (by omega) (by omega) k
                                rw [show i + (q - i) = q by omega, ← hp] at this
                                exact this)⟩
                          have HPe := hide hp
                          clear S hp
                          generalize half i j t Y p = xp at *
                          generalize half i j t Y q = xq at *
                          go_wp2
                          go_region_law (fail)
                          all_goals
                            go_wp2
                            go_roundg (n - t)
                            case measure => omega
                            case rel => exact ⟨p + 1, q - 1, t + 1, by go_num, by go_num, by have := HPe.out; omega, ⟨by omega, by have := HPe.out; omega⟩, by omega, NX⟩
                        · have hpz : ¬ (p : Int) < (q : Int) := by omega
                          have NX : Hid (RG w.heap.size n f o L w j wz) := by
                            refine ⟨S.out.1.grew HS1.out (Nat.le_refl _), rev i j Y, S.out.2.congr fun k _ => half_end Y (i := t) (j := q - i) (by omega) (by omega) k, HP.out.seg SEG.out, Or.inr (Or.inr fun hjn => ?_)⟩
                            rcases SEG.out.2.2.2.2 with e | e
                            · omega
                            · exact e
                          clear S hp
                          go_wp2
                          go_roundg (n - i)
                          case measure => omega
                          case rel => exact ⟨j, by go_num, by omega, by omega, NX⟩
                    · have hfm : ¬ f m < (L : Int) := fun q => hfj (m3.1 q)
                      have hfm' : (L : Int) ≤ f m := by omega
                      have HA' : Hid (∀ t, i ≤ t → t < j + 1 → ¬ f t < (L : Int)) := fun t h1 h2 => by
                        by_cases e : t = j
                        · subst e; exact hfj
                        · exact HA.out t h1 (by omega)
                      clear yj m1 m2 m3 hfj HA
                      go_wp2
                      go_round
                      case rel => exact ⟨j + 1, by omega, by omega, by go_num, HA'⟩
                      case measure => simp [intOf]; omega
                  · have hjz : ¬ (j : Int) < (n : Int) := by omega
                    have hij' : i < j := by
                      rcases Nat.lt_or_ge i j with h | h
                      · exact h
                      · obtain rfl : i = j := by omega
                        omega
                    have SEG : Hid (Seg f n (L : Int) i j) := ⟨hij', hj, HA.out, by
                      rcases HB.out with h | h | h
                      · exact Or.inl h
                      · exact Or.inr h
                      · exact absurd (h hin) (by have := HFI.out; omega), Or.inl (by omega)⟩
                    clear HA
                    have hj1 : (j : Int) - 1 = ((j - 1 : Nat) : Int) := by omega
                    have S2 : Hid (SW2 w.heap.size n Y i j 0 wi wi) := ⟨But.refl _ _, HY.out.congr fun k _ => (if_neg (by omega)).symm⟩
                    go_wp2
                    go_loopg [8, 9] (n + 1) (fun gh v8 v9 wr => ∃ p q t : Nat, v8 = .int .i64 (p : Int) ∧ v9 = .int .i64 (q : Int) ∧ p = i + t ∧ (q + t + 1 = j ∧ i ≤ q) ∧ n - t < gh ∧ Hid (SW2 w.heap.size n Y i j t wi wr))
                    case atStart => exact ⟨i, j - 1, 0, by go_num, by go_num, by omega, ⟨by omega, by omega⟩, by omega, S2⟩
                    case round =>
                      clear S2 hj1
                      obtain ⟨wz, rfl⟩ : ∃ wz : World, wz = wr := ⟨_, rfl⟩
                      obtain ⟨p, q, t, rfl, rfl, hp, ⟨hq, hiq⟩, hgt, S⟩ := hrel
                      by_cases hpq : p < q
                      · have hpz : (p : Int) < (q : Int) := by omega
                        have hp0 : (0 : Int) ≤ (p : Int) := by omega
                        have hq0 : (0 : Int) ≤ (q : Int) := by omega
                        have hpn : (p : Int) < (n : Int) := by omega
                        have hqn : (q : Int) < (n : Int) := by omega
                        have cp := S.out.2.cell (i := p) (by omega)
                        have cq := S.out.2.cell (i := q) (by omega)
                        have fp := S.out.2.frozen p
                        have fq := S.out.2.frozen q
                        have ne : ¬ p = q := by omega
                        have ne' : ¬ q = p := by omega
                        have hq1 : (q : Int) - 1 = ((q - 1 : Nat) : Int) := by omega
                        have NX : Hid (SW2 w.heap.size n Y i j (t + 1) wi (((wz.setCell ⟨w.heap.size, p, none⟩ (.int .i64 (half i j t Y q))).setCell ⟨w.heap.size, q, none⟩ (.int .i64 (half i j t Y p))).drew)) :=
                          ⟨((S.out.1.setCell rfl _).setCell rfl _).drew, (show IRow ((wz.setCell ⟨w.heap.size, p, none⟩ (.int .i64 (half i j t Y q))).setCell ⟨w.heap.size, q, none⟩ (.int .i64 (half i j t Y p))) w.heap.size n (half i j (t + 1) Y) from
                            ((S.out.2.set_ p _).set_ q _).congr fun k hk => by
                              have := half_step Y (a := i) (b := j) (i := t) (j := q - i) (by omega) (by omega) k
                              rw [show i + (q - i) = q by omega, ← hp] at this
                              exact this)⟩
                        have HPe := hide hp
                        clear S hp
                        generalize half i j t Y p = xp at *
                        generalize half i j t Y q = xq at *
                        go_wp2
                        go_region_law (fail)
                        all_goals
                          go_wp2
                          go_roundg (n - t)
                          case measure => omega
                          case rel => exact ⟨p + 1, q - 1, t + 1, by go_num, by go_num, by have := HPe.out; omega, ⟨by omega, by have := HPe.out; omega⟩, by omega, NX⟩
                      · have hpz : ¬ (p : Int) < (q : Int) := by omega
                        have NX : Hid (RG w.heap.size n f o L w j wz) := by
                          refine ⟨S.out.1.grew HS1.out (Nat.le_refl _), rev i j Y, S.out.2.congr fun k _ => half_end Y (i := t) (j := q - i) (by omega) (by omega) k, HP.out.seg SEG.out, Or.inr (Or.inr fun hjn => ?_)⟩
                          rcases SEG.out.2.2.2.2 with e | e
                          · omega
                          · exact e
                        clear S hp
                        go_wp2
                        go_roundg (n - i)
                        case measure => omega
                        case rel => exact ⟨j, by go_num, by omega, by omega, NX⟩
            · have hinz : ¬ (i : Int) < (n : Int) := by omega
              have NX : Hid (OL w.heap.size n f w (L - 1) wi) := by
                obtain ⟨s1, Y, s2, s3, s5⟩ := S.out
                exact ⟨s1, Nat.le_refl _, Y, s2, by rw [show L - 1 + 1 = L by omega]; exact .step L o Y S4.out (s3.all (by omega))⟩
              clear S
              go_wp2
              go_roundg L
              case measure => omega
              case rel => exact ⟨L - 1, by go_num, by omega, by omega, NX⟩
        · have hz : ¬ (0 : Int) < (L : Int) := by omega
          obtain rfl : L = 0 := by omega
          obtain ⟨s1, s2, o, s3, s4⟩ := S.out
          have FX := hide (And.intro s1 (And.intro s3 s4))
          clear S s1 s2 s3 s4
          go_wp2
          go_ret
          exact ⟨_, rfl, FX.out.1, Nat.le_refl _, o, FX.out.2.1, FX.out.2.2⟩
end Go.Proofs.Ytdkmjhbkjhikfaa
