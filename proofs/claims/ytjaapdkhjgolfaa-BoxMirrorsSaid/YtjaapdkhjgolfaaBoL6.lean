/- What the law BoxMirrors runs, where Offsets and Align (and, for the sanity check, Resolve) answer as the chapter asks; no other condition. -/
import Derived.Test.YtjaapdkhjgolfaaBoAx
import Derived.Test.YtjaapdkhjgolfaaBitM
import Derived.Test.YtjaapdkhjgolfaaBitM2
import Derived.BigQuiet
namespace Go.Proofs.Ytjaapdkhjgolfaa
open Go.RowKit Go.Sort
set_option linter.unusedVariables false
set_option linter.unusedSimpArgs false

theorem al_bd {al av sz : Int} (h : alOk al av sz) : (-2097152 ≤ alA al av sz false ∧ alA al av sz false ≤ 2097152) ∧ 0 ≤ alX al av sz ∧ alX al av sz ≤ 1048576 := by
  obtain ⟨h1, h2, h3⟩ := h
  have := half_bd (x := av - sz) (by omega) (by omega)
  unfold alA alP alX
  simp only [Bool.false_eq_true, if_false]
  constructor
  · split
    · omega
    · split <;> omega
  · split <;> omega
theorem pos_bdF {av gap ju : Int} {n : Nat} {f : Nat → Int} (hn : n ≤ 100) (h : ofOk av gap ju n f) {i : Nat} (hi : i < n) : -209715200 ≤ ofF av gap ju n f false i ∧ ofF av gap ju n f false i ≤ 500000000 := by
  have := pos_bd hn h i hi
  unfold ofF
  simp only [Bool.false_eq_true, if_false]
  omega
set_option maxRecDepth 100000 in
set_option maxHeartbeats 20000000 in
theorem mir_core (hR : KRes 11) (hO : KOff 20) (hA : KAlg 22) (av gap ju al sz : Int) (p : Option Addr) (n c : Nat) (f : Nat → Int) (W : World) (H : Reads W p n f) (hn : n ≤ 9223372036854775807) :
    Calls Try.prog 8 #[.int .i64 av, .int .i64 gap, .int .i64 ju, .int .i64 al, .int .i64 sz, .slice p n c] W fun e w' => e = .returned (.bool true) ∧ Below W.heap.size W w' := by
  by_cases h1 : 100 < n
  · clear hR hO hA H
    have hz : (100 : Int) < (n : Int) := by omega
    go_enter Try.func8, Try.ntmps8
    go_wp2_with fail
    go_ret
    exact ⟨rfl, Below.refl _ _⟩
  have hz : ¬ (100 : Int) < (n : Int) := by omega
  have e5 : Int.tmod (al % 65536) 5 = al % 65536 % 5 := Int.tmod_eq_emod_of_nonneg (by omega)
  have w5 : IntKind.i64.wrap (al % 65536 % 5) = al % 65536 % 5 := wr (by omega) (by omega)
  have A := hide (fun w' => bawake_any hR hO w')
  have hok : ofOk (av % 4096) (gap % 32) (ju % 4) n (fun j => f j % 128) := ⟨by omega, by omega, by omega, fun i hi => by dsimp only; omega⟩
  have hob : ofB (av % 4096) (gap % 32) (ju % 4) n (fun j => f j % 128) = true := (ofB_iff _ _ _ _ _).2 ⟨by omega, hok⟩
  have K1 := hide (fun (r : Bool) (w' : World) (h : Reads w' (some ⟨W.heap.size, 0, none⟩) n (fun j => f j % 128)) => hO (av % 4096) (gap % 32) (ju % 4) (some ⟨W.heap.size, 0, none⟩) n n (fun j => f j % 128) r w' h (by omega))
  have KA := hide (fun (r : Bool) (w' : World) => hA (al % 65536 % 5) (av % 4096) (sz % 4096) r w')
  have alok : alOk (al % 65536 % 5) (av % 4096) (sz % 4096) := ⟨by omega, by omega, by omega, by omega⟩
  have HV : Hid (∀ r, alV (al % 65536 % 5) (av % 4096) (sz % 4096) r = .tuple #[.int .i64 (alA (al % 65536 % 5) (av % 4096) (sz % 4096) r), .int .i64 (alX (al % 65536 % 5) (av % 4096) (sz % 4096))]) := fun r => by unfold alV; rw [if_pos alok]
  have AM := hide (al_mirror (al % 65536 % 5) (av % 4096) (sz % 4096))
  have AB := hide (al_bd alok)
  have MI := hide (of_mirror (av % 4096) (gap % 32) (ju % 4) n (fun j => f j % 128))
  have ST := hide (fun i hi => of_step (i := i) (by omega) hok hi)
  have PB := hide (fun i hi => pos_bdF (i := i) (by omega) hok hi)
  simp only [hob, if_true, eq_self_iff_true] at K1
  have H := hide H
  have ha : 0 ≤ av % 4096 ∧ av % 4096 ≤ 4095 := by omega
  have hgp : 0 ≤ gap % 32 ∧ gap % 32 ≤ 31 := by omega
  replace hok := hide hok
  clear hR hO hA hob h1 alok
  have hmk : ∀ W' : World, (Instr.makeSlice 23 (.int .i64 (n : Int)) (.int .i64 (n : Int))).run Try.prog W' = .ok (.slice (some ⟨W'.heap.size, 0, none⟩) n n) (W'.alloc (.cells (ints n (fun _ => 0)) 3)) := make_ints n (by omega)
  have B2 : Hid (Below W.heap.size W (W.alloc (.cells (ints n fun _ => 0) 3))) := (Below.refl _ _).alloc (Nat.le_refl _) _
  have R2 : Hid (IRow (W.alloc (.cells (ints n fun _ => 0) 3)) W.heap.size n (fun j => if j < 0 then f j % 128 else 0)) := IRow.new W n _
  go_enter Try.func8, Try.ntmps8
  go_wp2_with fail
  clear e5 w5
  generalize al % 65536 % 5 = al' at *
  generalize sz % 4096 = sz' at *
  generalize av % 4096 = av' at *
  generalize gap % 32 = gap' at *
  generalize ju % 4 = ju' at *
  obtain ⟨ha1, ha2⟩ := ha
  obtain ⟨hg1, hg2⟩ := hgp
  clear hmk
  generalize W.alloc (.cells (ints n fun _ => 0) 3) = w2 at *
  go_loopg [14] (n + 1) (fun g1 vk wr => ∃ k : Nat, vk = .int .i64 (k : Int) ∧ k ≤ n ∧ n - k < g1 ∧ Hid (Below W.heap.size W wr) ∧ Hid (IRow wr W.heap.size n (fun j => if j < k then f j % 128 else 0)))
  case atStart => exact ⟨0, by go_num, by omega, by omega, B2, R2⟩
  case round =>
    clear B2 R2
    obtain ⟨wo, rfl⟩ : ∃ wo : World, wo = wr := ⟨_, rfl⟩
    obtain ⟨k, rfl, hk, hg, B, R⟩ := hrel
    by_cases hlt : k < n
    · have hltz : (k : Int) < (n : Int) := by omega
      obtain ⟨b, off, rfl, hb⟩ := (H.out.below B.out) (by omega)
      have c1 : wo.cell? ⟨b, off + k, none⟩ = some (.int .i64 (f k)) := hb k hlt
      have fz : wo.frozen? ⟨W.heap.size, k, none⟩ = false := R.out.frozen k
      have fc : wo.cell? ⟨W.heap.size, k, none⟩ = some (.int .i64 0) := by have q := R.out.cell hlt; simp at q; exact q
      have NB : Hid (Below W.heap.size W (wo.setCell ⟨W.heap.size, k, none⟩ (.int .i64 (f k % 128)))) := B.out.setCell (Nat.le_refl _) _
      have NR : Hid (IRow (wo.setCell ⟨W.heap.size, k, none⟩ (.int .i64 (f k % 128))) W.heap.size n (fun j => if j < k + 1 then f j % 128 else 0)) := by
        refine (R.out.set_ k _).congr fun j hj => ?_
        by_cases h1 : j = k
        · subst h1; simp
        · by_cases h2 : j < k
          · simp [h1, h2, show j < k + 1 by omega]
          · simp [h1, h2, show ¬ j < k + 1 by omega]
      clear hb R B
      go_wp2_with fail
      generalize wo.setCell ⟨W.heap.size, k, none⟩ (.int .i64 (f k % 128)) = w3 at *
      go_roundg (n - k)
      case measure => omega
      case rel => exact ⟨k + 1, by go_num, by omega, by omega, NB, NR⟩
    · have hltz : ¬ (k : Int) < (n : Int) := by omega
      obtain rfl : n = k := by omega
      have R3 : IRow wo W.heap.size n (fun j => f j % 128) := R.out.congr fun j hj => by simp [hj]
      have R5 : Hid (Reads wo (some ⟨W.heap.size, 0, none⟩) n (fun j => f j % 128)) := R3.reads
      clear R R3 hk hg hlt
      go_wp2_with fail
      refine (K1.out false wo R5.out).mono ?_
      rintro e w4 ⟨q1, d1, rfl, Ra, h⟩
      have B4 : Hid (Below W.heap.size W w4) := B.out.trans (h.mono B.out.size)
      have R6 : Hid (Reads w4 (some ⟨W.heap.size, 0, none⟩) n (fun j => f j % 128)) := R5.out.below h
      replace Ra := hide Ra
      clear h B R5
      go_wp2_with fail
      refine (K1.out true w4 R6.out).mono ?_
      rintro e w5 ⟨q2, d2, rfl, Rb, h⟩
      have B5 : Hid (Below W.heap.size W w5) := B4.out.trans (h.mono B4.out.size)
      have R7 : Hid (Reads w5 (some ⟨W.heap.size, 0, none⟩) n (fun j => f j % 128)) := R6.out.below h
      have Ra5 : Hid (Reads w5 q1 n (ofF av' gap' ju' n (fun j => f j % 128) false)) := Ra.out.below h
      replace Rb := hide Rb
      clear h B4 R6 Ra K1
      go_wp2_with fail
      go_loopg [17] (n + 1) (fun g1 vk wr => ∃ k : Nat, vk = .int .i64 (k : Int) ∧ k ≤ n ∧ n - k < g1 ∧ Hid (Below W.heap.size W wr) ∧ Hid (Reads wr (some ⟨W.heap.size, 0, none⟩) n (fun j => f j % 128)) ∧ Hid (Reads wr q1 n (ofF av' gap' ju' n (fun j => f j % 128) false)) ∧ Hid (Reads wr q2 n (ofF av' gap' ju' n (fun j => f j % 128) true)))
      case atStart => exact ⟨0, by go_num, by omega, by omega, B5, R7, Ra5, Rb⟩
      case round =>
        clear B5 R7 Ra5 Rb
        obtain ⟨wi, rfl⟩ : ∃ wi : World, wi = wr := ⟨_, rfl⟩
        obtain ⟨k, rfl, hk, hg, B, R, Ra, Rb⟩ := hrel
        by_cases hlt : k < n
        · have hltz : (k : Int) < (n : Int) := by omega
          obtain ⟨b1, o1, rfl, h1⟩ := Ra.out (by omega)
          obtain ⟨b2, o2, rfl, h2⟩ := Rb.out (by omega)
          obtain ⟨b3, o3, e3, h3⟩ := R.out (by omega)
          cases e3
          have c1 : wi.cell? ⟨b1, o1 + k, none⟩ = some (.int .i64 (ofF av' gap' ju' n (fun j => f j % 128) false k)) := h1 k hlt
          have c2 : wi.cell? ⟨b2, o2 + k, none⟩ = some (.int .i64 (ofF av' gap' ju' n (fun j => f j % 128) true k)) := h2 k hlt
          have c3 : wi.cell? ⟨W.heap.size, k, none⟩ = some (.int .i64 (f k % 128)) := by have q := h3 k hlt; rwa [Nat.zero_add] at q
          have fk : 0 ≤ f k % 128 ∧ f k % 128 < 128 := by omega
          have m1 := MI.out k
          have p1 := PB.out k hlt
          rw [m1] at c2
          have NB : ∀ q, Hid (Below W.heap.size W (wi.drewN q)) := fun q => ⟨B.out.os, B.out.tape, B.out.output, B.out.size, B.out.block⟩
          have NR : ∀ q, Hid (Reads (wi.drewN q) (some ⟨W.heap.size, 0, none⟩) n (fun j => f j % 128)) := fun q => R.out
          have NA : ∀ q, Hid (Reads (wi.drewN q) (some ⟨b1, o1, none⟩) n (ofF av' gap' ju' n (fun j => f j % 128) false)) := fun q => Ra.out
          have NC : ∀ q, Hid (Reads (wi.drewN q) (some ⟨b2, o2, none⟩) n (ofF av' gap' ju' n (fun j => f j % 128) true)) := fun q => Rb.out
          replace NB := hide NB
          replace NR := hide NR
          replace NA := hide NA
          replace NC := hide NC
          obtain ⟨fk1, fk2⟩ := fk
          obtain ⟨p11, p12⟩ := p1
          rcases Nat.eq_zero_or_pos k with hk0 | hk0
          · subst hk0
            simp only [Nat.add_zero] at c1 c2 c3
            clear h1 h2 h3 m1 R Ra Rb B
            generalize ofF av' gap' ju' n (fun j => f j % 128) false 0 = xa at *
            generalize f 0 % 128 = xf at *
            have z1 : IntKind.i64.wrap (av' - xa) = av' - xa := wr (by omega) (by omega)
            have z2 : IntKind.i64.wrap (av' - xa - xf) = av' - xa - xf := wr (by omega) (by omega)
            go_wp2_with fail
            go_quiet (fail)
            have NB := NB.out nq
            have NR := NR.out nq
            have NA := NA.out nq
            have NC := NC.out nq
            clear c1 c2 c3
            generalize wi.drewN nq = w6 at *
            go_wp2_with fail
            go_roundg (n - 0)
            case measure => omega
            case rel => exact ⟨0 + 1, by go_num, by omega, by omega, NB, NR, NA, NC⟩
          · obtain ⟨m, rfl⟩ : ∃ m, k = m + 1 := ⟨k - 1, by omega⟩
            have c4 : wi.cell? ⟨b1, o1 + m, none⟩ = some (.int .i64 (ofF av' gap' ju' n (fun j => f j % 128) false m)) := h1 m (by omega)
            have c5 : wi.cell? ⟨b2, o2 + m, none⟩ = some (.int .i64 (ofF av' gap' ju' n (fun j => f j % 128) true m)) := h2 m (by omega)
            have c6 : wi.cell? ⟨W.heap.size, m, none⟩ = some (.int .i64 (f m % 128)) := by have q := h3 m (by omega); rwa [Nat.zero_add] at q
            have ⟨s1, s2⟩ := ST.out m hlt
            have m0 := MI.out m
            have p0 := PB.out m (by omega)
            rw [m0] at c5 s2
            rw [m1] at s2
            have fm : 0 ≤ f m % 128 ∧ f m % 128 < 128 := by omega
            obtain ⟨fm1, fm2⟩ := fm
            obtain ⟨p01, p02⟩ := p0
            clear h1 h2 h3 m1 m0 R Ra Rb B
            generalize ofF av' gap' ju' n (fun j => f j % 128) false (m + 1) = xa at *
            generalize ofF av' gap' ju' n (fun j => f j % 128) false m = ya at *
            have s1 : ya + f m % 128 + gap' ≤ xa := s1
            have s2 : av' - xa - f (m + 1) % 128 + f (m + 1) % 128 + gap' ≤ av' - ya - f m % 128 := s2
            generalize f (m + 1) % 128 = xf at *
            generalize f m % 128 = yf at *
            have z1 : IntKind.i64.wrap (av' - xa) = av' - xa := wr (by omega) (by omega)
            have z2 : IntKind.i64.wrap (av' - xa - xf) = av' - xa - xf := wr (by omega) (by omega)
            have z3 : IntKind.i64.wrap (ya + yf) = ya + yf := wr (by omega) (by omega)
            have z4 : IntKind.i64.wrap (ya + yf + gap') = ya + yf + gap' := wr (by omega) (by omega)
            have z5 : IntKind.i64.wrap (av' - xa - xf + xf) = av' - xa - xf + xf := wr (by omega) (by omega)
            have z6 : IntKind.i64.wrap (av' - xa - xf + xf + gap') = av' - xa - xf + xf + gap' := wr (by omega) (by omega)
            have n1 : ¬ xa < ya + yf + gap' := by omega
            have n2 : decide (xa < ya + yf + gap') = false := decide_eq_false n1
            have n3 : ¬ av' - ya - yf < av' - xa - xf + xf + gap' := by omega
            have n4 : decide (av' - ya - yf < av' - xa - xf + xf + gap') = false := decide_eq_false n3
            have hm0 : (0 : Int) ≤ (m : Int) := by omega
            have hmn : (m : Int) < (n : Int) := by omega
            have hm1 : (0 : Int) ≤ (m : Int) + 1 := by omega
            have hltz1 : (m : Int) + 1 < (n : Int) := by omega
            have hmp : (0 : Int) < (m : Int) + 1 := by omega
            have wm : IntKind.i64.wrap (m : Int) = (m : Int) := wr (by omega) (by omega)
            have dmp : decide ((0 : Int) < (m : Int) + 1) = true := decide_eq_true hmp
            go_wp2_with fail
            go_quiet (fail)
            have NB := NB.out nq
            have NR := NR.out nq
            have NA := NA.out nq
            have NC := NC.out nq
            clear c1 c2 c3 c4 c5 c6
            generalize wi.drewN nq = w6 at *
            go_wp2_with fail
            go_roundg (n - (m + 1))
            case measure => omega
            case rel => exact ⟨m + 1 + 1, by go_num, by omega, by omega, NB, NR, NA, NC⟩
        · have hltz : ¬ (k : Int) < (n : Int) := by omega
          clear R Ra Rb hk hg hlt
          have KF := KA.out false
          have KT := fun w' => KA.out true w'
          rw [HV.out false] at KF
          rw [HV.out true] at KT
          replace KF := hide KF
          replace KT := hide KT
          have mm := AM.out
          have bb := AB.out
          clear KA HV AM AB
          generalize alA al' av' sz' true = a1 at *
          generalize alA al' av' sz' false = a0 at *
          generalize alX al' av' sz' = ax at *
          obtain ⟨⟨bb1, bb2⟩, bb3, bb4⟩ := bb
          have z1 : IntKind.i64.wrap (av' - ax) = av' - ax := wr (by omega) (by omega)
          have z2 : IntKind.i64.wrap (av' - ax - a0) = av' - ax - a0 := wr (by omega) (by omega)
          subst mm
          go_wp2_with fail
          refine (KF.out wi).mono ?_
          rintro e w7 ⟨rfl, h⟩
          have B7 : Hid (Below W.heap.size W w7) := B.out.trans (h.mono B.out.size)
          clear h B KF
          go_wp2_with fail
          refine (KT.out w7).mono ?_
          rintro e w8 ⟨rfl, h⟩
          have B8 : Hid (Below W.heap.size W w8) := B7.out.trans (h.mono B7.out.size)
          clear h B7 KT
          go_wp2_with fail
          refine (A.out w8).mono ?_
          rintro e wz ⟨rfl, h⟩
          have BZ : Hid (Below W.heap.size W wz) := B8.out.trans (h.mono B8.out.size)
          clear h B8
          go_wp2_with fail
          go_ret
          exact ⟨rfl, BZ.out⟩
end Go.Proofs.Ytjaapdkhjgolfaa
