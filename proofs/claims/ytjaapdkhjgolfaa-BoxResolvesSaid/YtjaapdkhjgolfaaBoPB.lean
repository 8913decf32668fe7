/- Package box's Baseline and Align answer as its laws ask; no condition. -/
import Derived.Test.YtjaapdkhjgolfaaBoPA
import Derived.Test.YtjaapdkhjgolfaaBoC
namespace Go.Proofs.Ytjaapdkhjgolfaa
open Go.RowKit Go.Sort
set_option linter.unusedVariables false
set_option linter.unusedSimpArgs false

set_option maxHeartbeats 8000000 in
theorem bBas_err (p q : Option Addr) (n m c d : Nat) (f g : Nat → Int) (w : World) (hf : Reads w p n f) (hg : Reads w q m g) (hn : n ≤ 100000) (hm : m ≤ 100000) (h : ¬ basOk n m f g) :
    Calls Try.prog 24 #[.slice p n c, .slice q m d] w fun e w' => e = .returned (.tuple #[.slice none 0 0, .int .i64 0]) ∧ w = w' := by
  by_cases h1 : n = m
  · subst h1
    have h1z : ((n : Int) != (n : Int)) = false := by simp
    by_cases h2 : n ≤ 100
    · have h2z : ¬ (100 : Int) < (n : Int) := by omega
      have L1 := hide (lengths_any p n c f w (by omega) hf)
      have L2 := hide (lengths_any q n d g w (by omega) hg)
      cases e1 : lensB f n with
      | false =>
        rw [e1] at L1
        clear L2 h hf hg e1
        go_enter Try.func24, Try.ntmps24
        go_wp2_with fail
        refine L1.out.mono ?_
        rintro e w' ⟨rfl, rfl⟩
        go_wp2_with fail
        go_ret2
        exact ⟨rfl, rfl⟩
      | true =>
        rw [e1] at L1
        cases e2 : lensB g n with
        | true => exact absurd ⟨rfl, h2, fun i hi => ⟨(lensB_iff f n).1 e1 i hi, (lensB_iff g n).1 e2 i hi⟩⟩ h
        | false =>
          rw [e2] at L2
          clear h hf hg e1 e2
          go_enter Try.func24, Try.ntmps24
          go_wp2_with fail
          refine L1.out.mono ?_
          rintro e w' ⟨rfl, rfl⟩
          go_wp2_with fail
          refine L2.out.mono ?_
          rintro e w' ⟨rfl, rfl⟩
          go_wp2_with fail
          go_ret2
          exact ⟨rfl, rfl⟩
    · have h2z : (100 : Int) < (n : Int) := by omega
      clear h hf hg
      go_enter Try.func24, Try.ntmps24
      go_wp2_with fail
      go_ret2
      exact ⟨rfl, rfl⟩
  · have h1z : ((n : Int) != (m : Int)) = true := by simp; omega
    clear h hf hg
    go_enter Try.func24, Try.ntmps24
    go_wp2_with fail
    go_ret2
    exact ⟨rfl, rfl⟩

set_option maxHeartbeats 8000000 in
theorem bBas_ok (p q : Option Addr) (n m c d : Nat) (f g : Nat → Int) (w : World) (hf : Reads w p n f) (hg : Reads w q m g) (h : basOk n m f g) :
    Calls Try.prog 24 #[.slice p n c, .slice q m d] w fun e w' => e = .returned (.tuple #[.slice (some ⟨w.heap.size, 0, none⟩) n n, .int .i64 (maxF (fun i => maxF g n - g i + f i) n)]) ∧ IRow w' w.heap.size n (fun i => maxF g n - g i) ∧ Below w.heap.size w w' := by
  obtain ⟨rfl, h2, h3⟩ := h
  have L1 := hide (lengths_any p n c f w (by omega) hf)
  have L2 := hide (lengths_any q n d g w (by omega) hg)
  rw [(lensB_iff f n).2 fun i hi => (h3 i hi).1] at L1
  rw [(lensB_iff g n).2 fun i hi => (h3 i hi).2] at L2
  have H1 := hide hf
  have H2 := hide hg
  have HOK := hide h3
  have h2z : ¬ (100 : Int) < (n : Int) := by omega
  have h1z : ((n : Int) != (n : Int)) = false := by simp
  have hmk : ∀ W : World, (Instr.makeSlice 23 (.int .i64 (n : Int)) (.int .i64 (n : Int))).run Try.prog W = .ok (.slice (some ⟨W.heap.size, 0, none⟩) n n) (W.alloc (.cells (ints n (fun _ => 0)) 3)) := make_ints n (by omega)
  clear hf hg h3
  go_enter Try.func24, Try.ntmps24
  go_wp2_with fail
  refine L1.out.mono ?_
  rintro e w' ⟨rfl, rfl⟩
  go_wp2_with fail
  refine L2.out.mono ?_
  rintro e w' ⟨rfl, rfl⟩
  clear L1 L2
  go_wp2_with fail
  go_loopg [6, 33] (n + 1) (fun g1 vt vk wr => ∃ (k : Nat) (tp : Int), vt = .int .i64 tp ∧ vk = .int .i64 (k : Int) ∧ k ≤ n ∧ n - k < g1 ∧ (0 ≤ tp ∧ tp ≤ 1048576) ∧ Hid (tp = maxF g k) ∧ w = wr)
  case atStart => exact ⟨0, 0, rfl, by go_num, by omega, by omega, by omega, rfl, rfl⟩
  case round =>
    obtain ⟨wo, rfl⟩ : ∃ wo : World, wo = wr := ⟨_, rfl⟩
    obtain ⟨k, tp, rfl, rfl, hk, hg, ⟨a1, a2⟩, E1, rfl⟩ := hrel
    by_cases hlt : k < n
    · have hltz : (k : Int) < (n : Int) := by omega
      obtain ⟨b', off', rfl, hb', cg⟩ := reads_at H2.out (Below.refl _ _) hlt
      obtain ⟨o1, o2⟩ := (HOK.out k hlt).2
      have E2 : Hid (max tp (g k) = maxF g (k + 1)) := by show _ = _; rw [E1.out]; rfl
      clear E1
      go_wp2_with fail
      all_goals
        go_roundg (n - k)
        case measure => omega
        case rel => exact ⟨k + 1, _, rfl, by go_num, by omega, by omega, by omega, by first | exact E2 | (show _ = _; rw [← E2.out]; omega), rfl⟩
    · have hltz : ¬ (k : Int) < (n : Int) := by omega
      obtain rfl : n = k := by omega
      have G9 : Hid (Below w.heap.size w (w.alloc (.cells (ints n fun _ => 0) 3))) := (Below.refl _ _).alloc (Nat.le_refl _) _
      have R9 : Hid (IRow (w.alloc (.cells (ints n fun _ => 0) 3)) w.heap.size n (fun j => if j < 0 then tp - g j else 0)) := IRow.new w n _
      clear hk hg
      go_wp2_with fail
      clear hmk
      generalize hw9 : w.alloc (.cells (ints n fun _ => 0) 3) = w9 at G9 R9 ⊢
      clear hw9
      go_loopg [5, 46] (n + 1) (fun g1 vh vk wr => ∃ (k : Nat) (hh : Int), vh = .int .i64 hh ∧ vk = .int .i64 (k : Int) ∧ k ≤ n ∧ n - k < g1 ∧ (0 ≤ hh ∧ hh ≤ 2097152) ∧ Hid (hh = maxF (fun i => tp - g i + f i) k) ∧ Hid (Below w.heap.size w wr) ∧ Hid (IRow wr w.heap.size n (fun j => if j < k then tp - g j else 0)))
      case atStart => exact ⟨0, 0, rfl, by go_num, by omega, by omega, by omega, rfl, G9, R9⟩
      case round =>
        clear G9 R9
        obtain ⟨wi, rfl⟩ : ∃ wi : World, wi = wr := ⟨_, rfl⟩
        obtain ⟨k, hh, rfl, rfl, hk, hg, ⟨b1, b2⟩, E2, G, R⟩ := hrel
        by_cases hlt : k < n
        · have hltz : (k : Int) < (n : Int) := by omega
          obtain ⟨b, off, rfl, hb, cf⟩ := reads_at H1.out G.out hlt
          obtain ⟨b', off', rfl, hb', cg⟩ := reads_at H2.out G.out hlt
          have o := HOK.out k hlt
          have fz := R.out.frozen k
          have cz := R.out.cell hlt
          simp only [Nat.lt_irrefl, if_false] at cz
          have G3 : Hid (Below w.heap.size w (wi.setCell ⟨w.heap.size, k, none⟩ (.int .i64 (tp - g k)))) := G.out.setCell (Nat.le_refl _) _
          have R3 : Hid (IRow (wi.setCell ⟨w.heap.size, k, none⟩ (.int .i64 (tp - g k))) w.heap.size n (fun j => if j < k + 1 then tp - g j else 0)) := (R.out.set_ k _).congr fun j hj => by
            by_cases h1 : j = k
            · subst h1; simp
            · by_cases h2 : j < k
              · simp [h1, h2, show j < k + 1 by omega]
              · simp [h1, h2, show ¬ j < k + 1 by omega]
          have E3 : Hid (max hh (tp - g k + f k) = maxF (fun i => tp - g i + f i) (k + 1)) := by show _ = _; rw [E2.out]; rfl
          have mg : g k ≤ tp := by rw [E1.out]; exact maxF_ge hlt
          obtain ⟨⟨o1, o2⟩, o3, o4⟩ := o
          have ew : IntKind.i64.wrap (tp - g k + f k) = tp - g k + f k := wr (by omega) (by omega)
          have c1 := R3.out.cell hlt
          simp only [show k < k + 1 by omega, if_true] at c1
          clear G R E2
          go_wp2_with fail
          all_goals
            go_roundg (n - k)
            case measure => omega
            case rel => exact ⟨k + 1, _, rfl, by go_num, by omega, by omega, by omega, by first | exact E3 | (show _ = _; rw [← E3.out]; omega), G3, R3⟩
        · have hltz : ¬ (k : Int) < (n : Int) := by omega
          obtain rfl : n = k := by omega
          go_wp2_with fail
          go_ret2
          have e9 : maxF (fun i => maxF g n - g i + f i) n = hh := by rw [← E1.out]; exact E2.out.symm
          rw [e9]
          exact ⟨rfl, R.out.congr fun j hj => by simp [hj, E1.out], G.out⟩
theorem bBas : KBas 24 := by
  intro p q n m c d f g w hf hg hn hm
  unfold bsN bsH
  by_cases h : basOk n m f g
  · simp only [if_pos h]
    refine (bBas_ok p q n m c d f g w hf hg h).mono ?_
    rintro e w' ⟨rfl, hi, hG⟩
    exact ⟨_, n, rfl, hi.reads, hG⟩
  · simp only [if_neg h]
    refine (bBas_err p q n m c d f g w hf hg hn hm h).mono ?_
    rintro e w' ⟨rfl, rfl⟩
    exact ⟨none, 0, rfl, reads_none _ _, Below.refl _ _⟩

/-! ### Align -/
theorem lens2 (a b : Int) (w : World) : Calls Try.prog 34 #[.slice (some ⟨w.heap.size, 0, none⟩) 2 2] (w.alloc (.cells #[.int .i64 a, .int .i64 b] 3)) fun e w' => e = .returned (.bool (lenB a && lenB b)) ∧ w.alloc (.cells #[.int .i64 a, .int .i64 b] 3) = w' := by
  have h := lengths_any (some ⟨w.heap.size, 0, none⟩) 2 2 (fun i => if i = 0 then a else b) (w.alloc (.cells #[.int .i64 a, .int .i64 b] 3)) (by omega) (IRow.new w 2 (fun i => if i = 0 then a else b)).reads
  have e : lensB (fun i => if i = 0 then a else b) 2 = (lenB a && lenB b) := by simp [lensB]
  rw [e] at h
  exact h
set_option maxHeartbeats 8000000 in
theorem bAlg : KAlg 22 := by
  intro al av sz r w
  have W := fun W' => hide (bwithin_any al 0 4 W')
  have L := fun W' => hide (lens2 av sz W')
  have hB : Hid (Below w.heap.size w (w.alloc (.cells #[.int .i64 av, .int .i64 sz] 3))) := (Below.refl _ _).alloc (Nat.le_refl _) _
  by_cases h3 : 0 ≤ al ∧ al ≤ 4
  · have e3 : inB al 0 4 = true := decide_eq_true h3
    rw [e3] at W
    by_cases h12 : (0 ≤ av ∧ av ≤ 1048576) ∧ (0 ≤ sz ∧ sz ≤ 1048576)
    · have e12 : (lenB av && lenB sz) = true := by simp [lenB, h12]
      rw [e12] at L
      obtain ⟨h1, h2⟩ := h12
      have ha : alV al av sz r = .tuple #[.int .i64 (alA al av sz r), .int .i64 (alX al av sz)] := by
        unfold alV
        rw [if_pos ⟨h1, h2, h3⟩]
      rw [ha]
      clear e12 e3 ha
      have hal : al = 3 ∨ ¬ al = 3 := by omega
      rcases hal with rfl | hal
      · have S := fun W' => hide (start_any 3 0 W' (by omega))
        have PL := fun W' => hide (place_any 0 av av r W' (by omega) h1 h1)
        have e5 : alA 3 av sz r = plF 0 av av r := by unfold alA alX alP plF; simp
        have e6 : alX 3 av sz = av := by unfold alX; simp
        rw [e5, e6]
        simp only [show ¬ (3 : Int) = 1 by omega, show ¬ (3 : Int) = 2 by omega, if_false] at S
        obtain ⟨h11, h12⟩ := h1
        clear h2 h3
        go_enter Try.func22, Try.ntmps22
        go_wp2_with fail
        refine (W _).out.mono ?_
        rintro e w' ⟨rfl, rfl⟩
        go_wp2_with fail
        refine (L _).out.mono ?_
        rintro e w' ⟨rfl, rfl⟩
        go_wp2_with fail
        refine (S _).out.mono ?_
        rintro e w' ⟨rfl, j, rfl⟩
        go_wp2_with fail
        refine (PL _).out.mono ?_
        rintro e w' ⟨rfl, rfl⟩
        go_wp2_with fail
        go_ret2
        exact ⟨rfl, below_drewN hB.out _⟩
      · have ez : (al == 3) = false := by simpa using hal
        have hbd : -1048576 ≤ av - sz ∧ av - sz ≤ 1048576 := by omega
        have S := fun W' => hide (start_any al (av - sz) W' (by omega))
        have hb2 : -2097152 ≤ (if al = 1 then av - sz else if al = 2 then flr (av - sz) 2 else 0) ∧ (if al = 1 then av - sz else if al = 2 then flr (av - sz) 2 else 0) ≤ 2097152 := by
          have := half_bd hbd.1 hbd.2
          (repeat' split) <;> omega
        have PL := fun W' => hide (place_any (if al = 1 then av - sz else if al = 2 then flr (av - sz) 2 else 0) av sz r W' (by omega) h1 h2)
        have e6 : alX al av sz = sz := by unfold alX; simp [hal]
        have e5 : alA al av sz r = plF (if al = 1 then av - sz else if al = 2 then flr (av - sz) 2 else 0) av sz r := by unfold alA plF; rw [e6]; rfl
        rw [e5, e6]
        obtain ⟨h11, h12⟩ := h1
        obtain ⟨h21, h22⟩ := h2
        clear h3 hb2 e5 e6
        generalize (if al = 1 then av - sz else if al = 2 then flr (av - sz) 2 else 0) = st at *
        go_enter Try.func22, Try.ntmps22
        go_wp2_with fail
        refine (W _).out.mono ?_
        rintro e w' ⟨rfl, rfl⟩
        go_wp2_with fail
        refine (L _).out.mono ?_
        rintro e w' ⟨rfl, rfl⟩
        go_wp2_with fail
        refine (S _).out.mono ?_
        rintro e w' ⟨rfl, j, rfl⟩
        go_wp2_with fail
        refine (PL _).out.mono ?_
        rintro e w' ⟨rfl, rfl⟩
        go_wp2_with fail
        go_ret2
        exact ⟨rfl, below_drewN hB.out _⟩
    · have e12 : (lenB av && lenB sz) = false := by simp [lenB]; omega
      rw [e12] at L
      have ha : alV al av sz r = .tuple #[.int .i64 0, .int .i64 0] := by
        unfold alV
        rw [if_neg (fun h => h12 ⟨h.1, h.2.1⟩)]
      rw [ha]
      clear e12 e3 ha h3 h12
      go_enter Try.func22, Try.ntmps22
      go_wp2_with fail
      refine (W _).out.mono ?_
      rintro e w' ⟨rfl, rfl⟩
      go_wp2_with fail
      refine (L _).out.mono ?_
      rintro e w' ⟨rfl, rfl⟩
      go_wp2_with fail
      go_ret2
      exact ⟨rfl, hB.out⟩
  · have e3 : inB al 0 4 = false := decide_eq_false h3
    rw [e3] at W
    have ha : alV al av sz r = .tuple #[.int .i64 0, .int .i64 0] := by
      unfold alV
      rw [if_neg (fun h => h3 h.2.2)]
    rw [ha]
    clear e3 ha h3 hB L
    go_enter Try.func22, Try.ntmps22
    go_wp2_with fail
    refine (W _).out.mono ?_
    rintro e w' ⟨rfl, rfl⟩
    go_wp2_with fail
    go_ret2
    exact ⟨rfl, Below.refl _ _⟩
end Go.Proofs.Ytjaapdkhjgolfaa
/- Package box's Offsets answers as its laws ask; no condition. -/
namespace Go.Proofs.Ytjaapdkhjgolfaa
open Go.RowKit Go.Sort
set_option linter.unusedVariables false
set_option linter.unusedSimpArgs false

noncomputable def gapF (ju fr gap : Int) (n i : Nat) : Int := gap + if ju = 3 ∧ 0 < fr ∧ 1 < n ∧ i + 1 < n then shr fr ones (n - 1) i else 0
theorem gap_ext {av gap ju : Int} {n i : Nat} {f : Nat → Int} (hi : i + 1 < n) : gapF ju (freO av gap n f) gap n i = gap + extO av gap ju n f (i + 1) := by
  unfold gapF extO
  by_cases h : ju = 3 ∧ 0 < freO av gap n f ∧ 1 < n
  · obtain ⟨h1, h2, h3⟩ := h
    rw [if_pos ⟨h1, h2, h3, hi⟩, if_pos ⟨h1, h2, h3, by omega⟩, Nat.add_sub_cancel]
  · rw [if_neg (fun hh => h ⟨hh.1, hh.2.1, hh.2.2.1⟩), if_neg (fun hh => h ⟨hh.1, hh.2.1, hh.2.2.1⟩)]
theorem gap_bd {ju fr gap : Int} {n i : Nat} (h1 : fr ≤ 1048576) (h2 : 0 ≤ gap ∧ gap ≤ 1048576) : 0 ≤ gapF ju fr gap n i ∧ gapF ju fr gap n i ≤ 2097152 := by
  unfold gapF
  split
  · rename_i hh
    have := shr_bd (T := fr) (ones_good (n - 1)) (by omega) (i := i) (by omega)
    omega
  · omega
set_option maxHeartbeats 8000000 in
theorem gaps_plain (ju fr gap : Int) (n : Nat) (w : World) (hn : n ≤ 100) (h : ¬ (ju = 3 ∧ 0 < fr ∧ 1 < n)) :
    Calls Try.prog 37 #[.int .i64 ju, .int .i64 fr, .int .i64 gap, .int .i64 (n : Int)] w fun e w' => ∃ b, e = .returned (.slice (some ⟨b, 0, none⟩) n n) ∧ w.heap.size ≤ b ∧ IRow w' b n (gapF ju fr gap n) ∧ Below w.heap.size w w' := by
  have R := fun W => hide (repeat_any gap n W (by omega))
  have E : Hid (∀ i, i < n → gap = gapF ju fr gap n i) := fun i hi => by
    unfold gapF
    rw [if_neg (fun hh => h ⟨hh.1, hh.2.1, hh.2.2.1⟩), Int.add_zero]
  rcases (show ¬ ju = 3 ∨ (ju = 3 ∧ fr ≤ 0) ∨ (ju = 3 ∧ ¬ fr ≤ 0 ∧ (n : Int) < 2) by omega) with h1 | ⟨rfl, h1⟩ | ⟨rfl, h1, h2⟩
  · have d1 : (ju != 3) = true := by simpa using h1
    clear h h1
    go_enter Try.func37, Try.ntmps37
    go_wp2_with fail
    refine (R _).out.mono ?_
    rintro e w' ⟨b, rfl, hb, hr, hB⟩
    have hr := hide hr
    have hB := hide hB
    go_wp2_with fail
    go_ret
    exact ⟨b, rfl, hb, hr.out.congr E.out, hB.out⟩
  · clear h
    go_enter Try.func37, Try.ntmps37
    go_wp2_with fail
    refine (R _).out.mono ?_
    rintro e w' ⟨b, rfl, hb, hr, hB⟩
    have hr := hide hr
    have hB := hide hB
    go_wp2_with fail
    go_ret
    exact ⟨b, rfl, hb, hr.out.congr E.out, hB.out⟩
  · clear h
    go_enter Try.func37, Try.ntmps37
    go_wp2_with fail
    refine (R _).out.mono ?_
    rintro e w' ⟨b, rfl, hb, hr, hB⟩
    have hr := hide hr
    have hB := hide hB
    go_wp2_with fail
    go_ret
    exact ⟨b, rfl, hb, hr.out.congr E.out, hB.out⟩
set_option maxHeartbeats 8000000 in
set_option maxRecDepth 100000 in
theorem gaps_share (fr gap : Int) (m : Nat) (w : World) (hn : m + 2 ≤ 100) (h0 : 0 < fr) (h1 : fr ≤ 1048576) (h2 : 0 ≤ gap ∧ gap ≤ 1048576) :
    Calls Try.prog 37 #[.int .i64 3, .int .i64 fr, .int .i64 gap, .int .i64 ((m + 2 : Nat) : Int)] w fun e w' => ∃ b, e = .returned (.slice (some ⟨b, 0, none⟩) (m + 2) (m + 2)) ∧ w.heap.size ≤ b ∧ IRow w' b (m + 2) (gapF 3 fr gap (m + 2)) ∧ Below w.heap.size w w' := by
  have R := fun W => hide (repeat_any gap (m + 2) W (by omega))
  have R2 : ∀ W : World, Hid (Calls Try.prog 46 #[.int .i64 1, .int .i64 ((m + 1 : Nat) : Int)] W fun e w' => ∃ b, e = .returned (.slice (some ⟨b, 0, none⟩) (m + 1) (m + 1)) ∧ W.heap.size ≤ b ∧ IRow w' b (m + 1) (fun _ => 1) ∧ Below W.heap.size W w') := fun W => hide (repeat_any 1 (m + 1) W (by omega))
  have S := fun (b : Nat) (W : World) (h : IRow W b (m + 1) ones) => hide (share_ok fr (some ⟨b, 0, none⟩) (m + 1) (m + 1) ones W h.reads ⟨by omega, by omega, by omega, ones_good _⟩)
  have GF : Hid (∀ P, Parts fr ones (m + 1) P → ∀ j, j < m + 2 → (if j < m + 1 then gap + P j else gap) = gapF 3 fr gap (m + 2) j) := fun P hP j hj => by
    unfold gapF
    by_cases h : j < m + 1
    · rw [if_pos h, if_pos ⟨rfl, h0, by omega, by omega⟩, show m + 2 - 1 = m + 1 by omega, shr_of hP h]
    · rw [if_neg h, if_neg (fun hh => h (by omega)), Int.add_zero]
  have PB : Hid (∀ P, Parts fr ones (m + 1) P → ∀ j, j < m + 1 → 0 ≤ P j ∧ P j ≤ 1048576) := fun P hP j hj => by
    have := hP.bounds (by omega) (ones_good _) hj
    omega
  have hN : ((m + 2 : Nat) : Int) - 1 = ((m + 1 : Nat) : Int) := by omega
  have wN : IntKind.i64.wrap (((m + 2 : Nat) : Int) - 1) = ((m + 1 : Nat) : Int) := by rw [IntKind.wrap_i64]; omega
  have hf0 : ¬ fr ≤ 0 := by omega
  obtain ⟨g1, g2⟩ := h2
  obtain ⟨N, hNN⟩ : ∃ N, N = m + 2 := ⟨_, rfl⟩
  obtain ⟨M, hMM⟩ : ∃ M, M = m + 1 := ⟨_, rfl⟩
  rw [← hNN] at R GF hN wN ⊢
  rw [← hMM] at R2 S GF PB hN wN
  have hMN : M < N := by omega
  have hN2 : ¬ (N : Int) < 2 := by omega
  have hM1 : N ≤ 100 := by omega
  clear hNN hMM hN
  go_enter Try.func37, Try.ntmps37
  go_wp2_with fail
  refine (R _).out.mono ?_
  rintro e w1 ⟨b, rfl, hb, hr, hB⟩
  have RW := hide hr
  have BW := hide hB
  clear hr hB R
  go_wp2_with fail
  refine (R2 _).out.mono ?_
  rintro e w2 ⟨b2, rfl, hb2, hr2, hB2⟩
  have SS := (S b2 w2 hr2)
  have RW2 : Hid (IRow w2 b N (fun _ => gap)) := RW.out.below hB2 RW.out.lt
  have BW2 : Hid (Below w.heap.size w w2) := BW.out.trans (hB2.mono BW.out.size)
  clear hr2 hB2 RW BW R2 S
  go_wp2_with fail
  refine SS.out.mono ?_
  rintro e w3 ⟨rfl, hB3, P, hP, hr3⟩
  have RW3 : Hid (IRow w3 b N (fun j => if j < 0 then gap + P j else gap)) := (RW2.out.below hB3 RW2.out.lt).congr fun j hj => by simp
  have PR3 : Hid (IRow w3 w2.heap.size M P) := hr3
  have BW3 : Hid (Below w.heap.size w w3) := BW2.out.trans (hB3.mono BW2.out.size)
  have NE : Hid (w2.heap.size ≠ b ∧ w.heap.size ≤ b) := ⟨by have := RW2.out.lt; omega, hb⟩
  have GF2 := hide (GF.out P hP)
  have PB2 := hide (PB.out P hP)
  clear hr3 hB3 RW2 BW2 SS GF PB hP hb hb2
  go_wp2_with fail
  generalize w2.heap.size = pb at *
  go_loopg [38] (M + 1) (fun g vk wr => ∃ k : Nat, vk = .int .i64 (k : Int) ∧ k ≤ M ∧ M - k < g ∧ Hid (Below w.heap.size w wr) ∧ Hid (IRow wr pb M P) ∧ Hid (IRow wr b N (fun j => if j < k then gap + P j else gap)))
  case atStart => exact ⟨0, by go_num, by omega, by omega, BW3, PR3, RW3⟩
  case round =>
    clear BW3 PR3 RW3
    obtain ⟨wo, rfl⟩ : ∃ wo : World, wo = wr := ⟨_, rfl⟩
    obtain ⟨k, rfl, hk, hg, B, PR, RR⟩ := hrel
    by_cases hlt : k < M
    · have hltz : (k : Int) < (M : Int) := by omega
      have hltn : (k : Int) < (N : Int) := by omega
      have cp := PR.out.cell hlt
      have cr := RR.out.cell (i := k) (by omega)
      simp only [Nat.lt_irrefl, if_false] at cr
      have fz := RR.out.frozen k
      obtain ⟨p1, p2⟩ := PB2.out k hlt
      have NB : Hid (Below w.heap.size w (wo.setCell ⟨b, k, none⟩ (.int .i64 (gap + P k)))) := B.out.setCell NE.out.2 _
      have NP : Hid (IRow (wo.setCell ⟨b, k, none⟩ (.int .i64 (gap + P k))) pb M P) := PR.out.far NE.out.1 _
      have NR : Hid (IRow (wo.setCell ⟨b, k, none⟩ (.int .i64 (gap + P k))) b N (fun j => if j < k + 1 then gap + P j else gap)) := (RR.out.set_ k _).congr fun j hj => by
        by_cases h1 : j = k
        · subst h1; simp
        · by_cases h2 : j < k
          · simp [h1, h2, show j < k + 1 by omega]
          · simp [h1, h2, show ¬ j < k + 1 by omega]
      clear B PR RR
      generalize P k = pk at *
      go_wp2_with fail
      go_roundg (M - k)
      case measure => omega
      case rel => exact ⟨k + 1, by go_num, by omega, by omega, NB, NP, NR⟩
    · have hltz : ¬ (k : Int) < (M : Int) := by omega
      obtain rfl : M = k := by omega
      go_wp2_with fail
      go_ret
      exact ⟨b, rfl, NE.out.2, RR.out.congr fun j hj => GF2.out j hj, B.out⟩
theorem gaps_any (ju fr gap : Int) (n : Nat) (w : World) (hn : n ≤ 100) (h1 : fr ≤ 1048576) (h2 : 0 ≤ gap ∧ gap ≤ 1048576) :
    Calls Try.prog 37 #[.int .i64 ju, .int .i64 fr, .int .i64 gap, .int .i64 (n : Int)] w fun e w' => ∃ b, e = .returned (.slice (some ⟨b, 0, none⟩) n n) ∧ w.heap.size ≤ b ∧ IRow w' b n (gapF ju fr gap n) ∧ Below w.heap.size w w' := by
  by_cases h : ju = 3 ∧ 0 < fr ∧ 1 < n
  · obtain ⟨rfl, h0, hn1⟩ := h
    obtain ⟨m, rfl⟩ : ∃ m, n = m + 2 := ⟨n - 2, by omega⟩
    exact gaps_share fr gap m w hn h0 h1 h2
  · exact gaps_plain ju fr gap n w hn h
end Go.Proofs.Ytjaapdkhjgolfaa
/- Package box's Offsets answers as its laws ask; no condition. -/
namespace Go.Proofs.Ytjaapdkhjgolfaa
open Go.RowKit Go.Sort
set_option linter.unusedVariables false
set_option linter.unusedSimpArgs false

theorem lensB_ofB {av gap ju : Int} {n : Nat} {f : Nat → Int} (hn : n ≤ 100) : ofB av gap ju n f = (inB ju 0 3 && (lenB av && lenB gap) && lensB f n) := by
  have e : lenA f 0 n = lensB f n := by
    by_cases h : ∀ i, i < n → 0 ≤ f i ∧ f i ≤ 1048576
    · rw [(lensB_iff f n).2 h, (lenA_iff f n 0).2 fun i _ hi => h i (by omega)]
    · have a : lensB f n = false := by
        cases hl : lensB f n with
        | false => rfl
        | true => exact absurd ((lensB_iff f n).1 hl) h
      have b : lenA f 0 n = false := by
        cases hl : lenA f 0 n with
        | false => rfl
        | true => exact absurd (fun i hi => (lenA_iff f n 0).1 hl i (Nat.zero_le _) (by omega)) h
      rw [a, b]
  unfold ofB inB
  rw [e, decide_eq_true (show n ≤ 100 from hn)]
  cases lenB av <;> cases lenB gap <;> cases lensB f n <;> simp
set_option maxHeartbeats 8000000 in
theorem bOffsets_err (av gap ju : Int) (p : Option Addr) (n c : Nat) (f : Nat → Int) (r : Bool) (w : World) (hf : Reads w p n f) (hn : n ≤ 100000) (ho : ofB av gap ju n f = false) :
    Calls Try.prog 20 #[.int .i64 av, .int .i64 gap, .int .i64 ju, .slice p n c, .bool r] w fun e w' => e = .returned (.slice none 0 0) ∧ Below w.heap.size w w' := by
  have W := fun W' => hide (bwithin_any ju 0 3 W')
  have L := fun W' => hide (lens2 av gap W')
  have hB : Hid (Below w.heap.size w (w.alloc (.cells #[.int .i64 av, .int .i64 gap] 3))) := (Below.refl _ _).alloc (Nat.le_refl _) _
  have L3 := hide (lengths_any p n c f _ (by omega) (hf.below hB.out))
  clear hf
  by_cases h1 : 100 < n
  · have h1z : (100 : Int) < (n : Int) := by omega
    clear W L L3 ho hB
    go_enter Try.func20, Try.ntmps20
    go_wp2_with fail
    go_ret
    exact ⟨rfl, Below.refl _ _⟩
  have h1z : ¬ (100 : Int) < (n : Int) := by omega
  rw [lensB_ofB (by omega)] at ho
  replace ho := hide ho
  generalize inB ju 0 3 = v0 at *
  generalize (lenB av && lenB gap) = v1 at *
  generalize lensB f n = v2 at *
  cases v0
  · clear L L3 ho hB
    go_enter Try.func20, Try.ntmps20
    go_wp2_with fail
    refine (W _).out.mono ?_
    rintro e w' ⟨rfl, rfl⟩
    go_wp2_with fail
    go_ret
    exact ⟨rfl, Below.refl _ _⟩
  cases v1
  · clear L3 ho
    go_enter Try.func20, Try.ntmps20
    go_wp2_with fail
    refine (W _).out.mono ?_
    rintro e w' ⟨rfl, rfl⟩
    go_wp2_with fail
    refine (L _).out.mono ?_
    rintro e w' ⟨rfl, rfl⟩
    go_wp2_with fail
    go_ret
    exact ⟨rfl, hB.out⟩
  cases v2
  · clear ho
    go_enter Try.func20, Try.ntmps20
    go_wp2_with fail
    refine (W _).out.mono ?_
    rintro e w' ⟨rfl, rfl⟩
    go_wp2_with fail
    refine (L _).out.mono ?_
    rintro e w' ⟨rfl, rfl⟩
    go_wp2_with fail
    refine L3.out.mono ?_
    rintro e w' ⟨rfl, rfl⟩
    go_wp2_with fail
    go_ret
    exact ⟨rfl, hB.out⟩
  exact Bool.noConfusion ho.out
set_option maxHeartbeats 8000000 in
set_option maxRecDepth 100000 in
theorem bOffsets_ok (av gap ju : Int) (p : Option Addr) (n c : Nat) (f : Nat → Int) (r : Bool) (w : World) (hf : Reads w p n f) (hn : n ≤ 100) (ho : ofOk av gap ju n f) :
    Calls Try.prog 20 #[.int .i64 av, .int .i64 gap, .int .i64 ju, .slice p n c, .bool r] w fun e w' => ∃ b, e = .returned (.slice (some ⟨b, 0, none⟩) n n) ∧ IRow w' b n (ofF av gap ju n f r) ∧ Below w.heap.size w w' := by
  have HF := hide hf
  have HO := hide ho
  have W := fun W' => hide (bwithin_any ju 0 3 W')
  have L := fun W' => hide (lens2 av gap W')
  have hB : Hid (Below w.heap.size w (w.alloc (.cells #[.int .i64 av, .int .i64 gap] 3))) := (Below.refl _ _).alloc (Nat.le_refl _) _
  have hf1 := hf.below hB.out
  have L3 := hide (lengths_any p n c f _ (by omega) hf1)
  have SM := hide (bsum_any p n c f _ (by omega) (fun k hk => by have := ho.2.2.2 k hk; omega) hf1)
  have GS := fun W' => hide (gapSum_any gap n W' ho.2.1 (by omega))
  rw [show inB ju 0 3 = true from decide_eq_true ho.2.2.1] at W
  rw [show (lenB av && lenB gap) = true by simp [lenB, ho.1, ho.2.1]] at L
  rw [(lensB_iff f n).2 ho.2.2.2] at L3
  have sb := sumF_bound (f := f) (B := 1048576) n fun i hi => ho.2.2.2 i hi
  have gb := gs_bd (n := n) ho.2.1 (by omega)
  have fb := fre_bdO hn ho (Nat.le_refl n)
  have EF : Hid (av - sumF f n - gsF gap n = freO av gap n f) := by
    show _ = _
    unfold freO
    rw [← gs_spc]
    omega
  obtain ⟨⟨av1, av2⟩, ⟨ga1, ga2⟩, _⟩ := ho
  obtain ⟨sb1, sb2⟩ := sb
  obtain ⟨gb1, gb2⟩ := gb
  have hz : ¬ (100 : Int) < (n : Int) := by omega
  have sb3 : sumF f n ≤ 104857600 := by omega
  have gb3 : gsF gap n ≤ 104857600 := by omega
  clear sb2 gb2
  generalize sumF f n = S at *
  generalize gsF gap n = G at *
  obtain ⟨fr, hfr⟩ : ∃ fr, fr = freO av gap n f := ⟨_, rfl⟩
  rw [← hfr] at fb EF
  obtain ⟨fb1, fb2⟩ := fb
  have ST := fun W' => hide (start_any ju fr W' (by omega))
  have GP := fun W' => hide (gaps_any ju fr gap n W' hn (by omega) ⟨ga1, ga2⟩)
  have hmk : ∀ W : World, (Instr.makeSlice 23 (.int .i64 (n : Int)) (.int .i64 (n : Int))).run Try.prog W = .ok (.slice (some ⟨W.heap.size, 0, none⟩) n n) (W.alloc (.cells (ints n (fun _ => 0)) 3)) := make_ints n (by omega)
  have HFR := hide hfr
  have A0 : Hid ((if ju = 1 then fr else if ju = 2 then flr fr 2 else 0) = atO av gap ju n f 0) := by show _ = at0 ju (freO av gap n f); rw [← hfr]; rfl
  have AB := at_bd hn HO.out 0 (by omega)
  rw [← A0.out] at AB
  generalize (if ju = 1 then fr else if ju = 2 then flr fr 2 else 0) = st at *
  clear hf hf1 hfr
  go_enter Try.func20, Try.ntmps20
  go_wp2_with fail
  refine (W _).out.mono ?_
  rintro e w' ⟨rfl, rfl⟩
  go_wp2_with fail
  refine (L _).out.mono ?_
  rintro e w' ⟨rfl, rfl⟩
  go_wp2_with fail
  refine L3.out.mono ?_
  rintro e w' ⟨rfl, rfl⟩
  clear W L L3
  go_wp2_with fail
  refine SM.out.mono ?_
  rintro e w' ⟨rfl, rfl⟩
  go_wp2_with fail
  refine (GS _).out.mono ?_
  rintro e w' ⟨rfl, rfl⟩
  clear GS SM
  go_wp2_with fail
  rw [EF.out]
  refine (ST _).out.mono ?_
  rintro e w' ⟨rfl, j, rfl⟩
  have hB2 := hide (below_drewN hB.out j)
  clear hB ST
  go_wp2_with fail
  refine (GP _).out.mono ?_
  rintro e w3 ⟨gp, rfl, hgp, hgr, hgB⟩
  have B3 : Hid (Below w.heap.size w w3) := hB2.out.trans (hgB.mono hB2.out.size)
  have G3 := hide hgr
  have hgp2 : w.heap.size ≤ gp := Nat.le_trans hB2.out.size hgp
  clear GP hgr hgB hB2 hgp
  have B4 : Hid (Below w.heap.size w (w3.alloc (.cells (ints n fun _ => 0) 3))) := B3.out.alloc B3.out.size _
  have G4 : Hid (IRow (w3.alloc (.cells (ints n fun _ => 0) 3)) gp n (gapF ju fr gap n)) := G3.out.alloc _
  have R4 : Hid (IRow (w3.alloc (.cells (ints n fun _ => 0) 3)) w3.heap.size n (fun j => if j < 0 then ofF av gap ju n f r j else 0)) := (IRow.new w3 n (fun _ => 0)).congr fun j hj => by simp
  have NE : Hid (gp ≠ w3.heap.size ∧ w.heap.size ≤ w3.heap.size) := ⟨by have := G3.out.lt; omega, B3.out.size⟩
  clear G3 B3
  go_wp2_with fail
  clear hmk
  generalize w3.alloc (.cells (ints n fun _ => 0) 3) = w4 at *
  generalize w3.heap.size = lb at *
  clear EF
  go_loopg [12, 60] (n + 1) (fun g3 va vi wr => ∃ (i : Nat) (a : Int), va = .int .i64 a ∧ vi = .int .i64 (i : Int) ∧ i ≤ n ∧ n - i < g3 ∧ (-209715200 ≤ a ∧ a ≤ 8000000 + i * 4000000) ∧ Hid (i < n → a = posO av gap ju n f i) ∧ Hid (Below w.heap.size w wr) ∧ Hid (IRow wr gp n (gapF ju fr gap n)) ∧ Hid (IRow wr lb n (fun j => if j < i then ofF av gap ju n f r j else 0)))
  case atStart => exact ⟨0, _, rfl, by go_num, by omega, by omega, by omega, fun _ => A0.out, B4, G4, R4⟩
  case round =>
    clear B4 G4 R4
    obtain ⟨wo, rfl⟩ : ∃ wo : World, wo = wr := ⟨_, rfl⟩
    obtain ⟨i, a, rfl, rfl, hi, hg3, ⟨a1, a2⟩, EA, B, X, R⟩ := hrel
    by_cases hlt : i < n
    · have hltz : (i : Int) < (n : Int) := by omega
      obtain ⟨b, off, rfl, hbw, cf⟩ := reads_at HF.out B.out hlt
      have cx := X.out.cell hlt
      obtain ⟨o1, o2⟩ := HO.out.2.2.2 i hlt
      have ea := EA.out hlt
      have PL := fun W' => hide (place_any a av (f i) r W' (by omega) ⟨av1, av2⟩ ⟨o1, o2⟩)
      have EP : Hid (plF a av (f i) r = ofF av gap ju n f r i) := by show _ = _; unfold plF ofF; rw [ea]
      have fz := R.out.frozen i
      have cz := R.out.cell hlt
      simp only [Nat.lt_irrefl, if_false] at cz
      obtain ⟨x1, x2⟩ := gap_bd (ju := ju) (fr := fr) (gap := gap) (n := n) (i := i) (by omega) ⟨ga1, ga2⟩
      have EN : Hid (i + 1 < n → a + (f i + gapF ju fr gap n i) = posO av gap ju n f (i + 1)) := fun h => by
        show _ = posO av gap ju n f i + f i + (gap + extO av gap ju n f (i + 1))
        rw [HFR.out, gap_ext h, ea]
        omega
      have NB : Hid (Below w.heap.size w (wo.setCell ⟨lb, i, none⟩ (.int .i64 (plF a av (f i) r)))) := B.out.setCell NE.out.2 _
      have NX : Hid (IRow (wo.setCell ⟨lb, i, none⟩ (.int .i64 (plF a av (f i) r))) gp n (gapF ju fr gap n)) := X.out.far NE.out.1 _
      have NR : Hid (IRow (wo.setCell ⟨lb, i, none⟩ (.int .i64 (plF a av (f i) r))) lb n (fun j => if j < i + 1 then ofF av gap ju n f r j else 0)) := (R.out.set_ i _).congr fun j hj => by
        by_cases h1 : j = i
        · subst h1; simp [EP.out]
        · by_cases h2 : j < i
          · simp [h1, h2, show j < i + 1 by omega]
          · simp [h1, h2, show ¬ j < i + 1 by omega]
      have cx2 := NX.out.cell hlt
      clear ea EA B X R EP cx
      generalize plF a av (f i) r = pv at *
      generalize f i = fi at *
      generalize gapF ju fr gap n i = gi at *
      go_wp2_with fail
      refine (PL _).out.mono ?_
      rintro e w' ⟨rfl, rfl⟩
      clear PL
      go_wp2_with fail
      go_roundg (n - i)
      case measure => omega
      case rel => exact ⟨i + 1, _, rfl, by go_num, by omega, by omega, by omega, EN, NB, NX, NR⟩
    · have hltz : ¬ (i : Int) < (n : Int) := by omega
      obtain rfl : n = i := by omega
      go_wp2_with fail
      go_ret
      exact ⟨lb, rfl, R.out.congr fun j hj => by simp [hj], B.out⟩
theorem bOff : KOff 20 := by
  intro av gap ju p n c f r w hf hn
  by_cases h : ofB av gap ju n f = true
  · have ⟨h1, h2⟩ := (ofB_iff av gap ju n f).1 h
    simp only [h, if_true]
    refine (bOffsets_ok av gap ju p n c f r w hf h1 h2).mono ?_
    rintro e w' ⟨b, rfl, hi, hB⟩
    exact ⟨some ⟨b, 0, none⟩, n, rfl, hi.reads, hB⟩
  · have h' : ofB av gap ju n f = false := by simpa using h
    simp only [h', Bool.false_eq_true, if_false]
    refine (bOffsets_err av gap ju p n c f r w hf hn h').mono ?_
    rintro e w' ⟨rfl, hB⟩
    exact ⟨none, 0, rfl, reads_none _ _, hB⟩
end Go.Proofs.Ytjaapdkhjgolfaa
