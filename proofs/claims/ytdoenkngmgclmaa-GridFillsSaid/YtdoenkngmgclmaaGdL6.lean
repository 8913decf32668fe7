/- What the law GridTracks runs, where Tracks, Least, Most, Place and their references answer as the chapter asks; no other condition. -/
import Derived.Test.YtdoenkngmgclmaaGdL4
import Derived.Test.YtdoenkngmgclmaaGdBu
import Derived.Test.YtdoenkngmgclmaaMixF
import Derived.Test.YtdoenkngmgclmaaGdF
import Derived.BigQuiet
namespace Go.Proofs.Ytdoenkngmgclmaa
open Go.RowKit Go.Sort
set_option linter.unusedVariables false
set_option linter.unusedSimpArgs false

/-- A base world with no count of draws. -/
def base0G (W : World) : World := { W with drawn := 0 }
theorem base0G_grew {W w : World} (h : Below W.heap.size W w) : Grew (base0G W) w := ⟨⟨h.os, h.tape, h.output, h.size, h.block⟩, Nat.zero_le _⟩
theorem base0G_below {W w : World} (h : Grew (base0G W) w) : Below W.heap.size W w := ⟨h.1.os, h.1.tape, h.1.output, h.1.size, h.1.block⟩
theorem Kept.of_but {sb : Nat} {w w' : World} (h : But sb w w') : Kept sb w w' := ⟨h.os, h.tape, h.output, h.size, h.block⟩
theorem own_cap {w : World} {base : Nat} {e : TypeId} {size : Nat} {v : Value} {n : Nat} {xs : List Value} (h : w.ownsRow base e size v n xs) : ∃ p c, v = .slice p n c ∧ n ≤ c := by
  rcases h.2 with ⟨rfl, rfl⟩ | ⟨g, cap, cur, rfl, _, _, h3, _⟩
  · exact ⟨none, 0, rfl, Nat.le_refl _⟩
  · exact ⟨_, cap, rfl, h3⟩
theorem srow_of_own {w : World} {base : Nat} {e : TypeId} {s : Nat} {q : Option Addr} {n c : Nat} {f : Nat → Nat → Value} (h : w.ownsRow base e s (.slice q n c) n (flat n s f)) : SRow w q n s f := by
  obtain ⟨p', c', e', hs⟩ := own_srowG h
  simp at e'
  rw [e'.1]
  exact hs
theorem own_kept {w w' : World} {base sb : Nat} {e : TypeId} {size : Nat} {v : Value} {n : Nat} {xs : List Value} (h : w.ownsRow base e size v n xs) (hs : sb < base) (k : Kept sb w w') : w'.ownsRow base e size v n xs := by
  have hl := h.lt
  refine ⟨h.1, ?_⟩
  rcases h.2 with hn | ⟨g, cap, cur, rfl, h1, h2, h3⟩
  · exact Or.inl hn
  · have := hl g rfl
    exact Or.inr ⟨g, cap, cur, rfl, h1, (k.block g this.2 (by omega)).trans h2, h3⟩
def tvL : List Value := [.int .i64 0, .int .i64 20, .int .i64 100, .int .i64 300, .int .i64 1000]
def tvF (k : Nat) : Int := match k with
  | 0 => 0 | 1 => 20 | 2 => 100 | 3 => 300 | _ => 1000
theorem tv_at {k : Nat} (hk : k < 5) : tvL[k]? = some (.int .i64 (tvF k)) := by
  rcases (show k = 0 ∨ k = 1 ∨ k = 2 ∨ k = 3 ∨ k = 4 by omega) with rfl | rfl | rfl | rfl | rfl <;> rfl
def R5 (sb i : Nat) (b : Nat) (v : Value) (w : World) : Prop :=
  match b with
  | 0 => ∃ g, v = .slice (some ⟨g, 0, none⟩) 5 5 ∧ g ≠ sb ∧ Blk w g 3 tvL
  | 2 => ∃ g, v = .pointer (some ⟨g, i, none⟩) ∧ g ≠ sb ∧ Blk w g 3 tvL
  | 3 => v = .int .i64 (tvF i)
  | 5 => ∃ z : Int, (0 ≤ z ∧ z < 12) ∧ v = .int .i64 z
  | 8 => v = .bool true
  | _ => v = .bool false
theorem R5.kept {sb i b : Nat} {v : Value} {w w' : World} (h : R5 sb i b v w) (k : Kept sb w w') : R5 sb i b v w' := by
  match b, h with
  | 0, ⟨g, e, h1, h2⟩ => exact ⟨g, e, h1, h2.kept k h1⟩
  | 1, h => exact h
  | 2, ⟨g, e, h1, h2⟩ => exact ⟨g, e, h1, h2.kept k h1⟩
  | 3, h => exact h
  | 4, h => exact h
  | 5, h => exact h
  | 6, h => exact h
  | 7, h => exact h
  | 8, h => exact h
  | b + 9, h => exact h
set_option maxRecDepth 100000 in
set_option maxHeartbeats 20000000 in
theorem gtr_core (hT : KTk 16) (hL : KLs 18) (hM : KMs 26) (hP : KPl 9) (p : Option Addr) (n0 c0 : Nat) (f : Nat → Int) (W : World) (hnc : n0 ≤ c0) (hr : Reads W p n0 f) (hf : ∀ k, -9223372036854775808 ≤ f k ∧ f k ≤ 9223372036854775807) :
    Calls Try.prog 6 #[.slice p n0 c0] W fun e w' => e = .returned (.bool true) ∧ Below W.heap.size W w' := by
  have A := hide (fun w' => gawake_any (tr_of hT) hP w')
  have SC := hide (fun (av gap : Int) (p q : Option Addr) (n m c d : Nat) (t : Nat → Tk) (I : Nat → It) (w : World) (h1 : SRow w p n 2 (trC t)) (h2 : SRow w q m 4 (itC I)) (hc : n ≤ c) (hn : n ≤ 100000) (hm : m ≤ 100000) => same_core hT hL hM av gap p q n m c d t I w h1 h2 hc hn hm)
  have K0 := hide (New_any p n0 c0 W hnc (fun h => by obtain ⟨b, off, e, _⟩ := hr h; exact ⟨_, e⟩))
  clear hT hL hM hP
  go_enter Try.func6, Try.ntmps6
  go_wp2_with fail
  refine K0.out.mono ?_
  rintro e w1 ⟨sb, m, c', rfl, G1, hsb, ⟨hm1, hm2⟩, B1⟩
  have S1 : Hid (SR (base0G W) w1 sb p m c' f) := ⟨base0G_grew G1.1, hsb, fun h0 => by
    obtain ⟨b, off, e, hc⟩ := hr (by omega)
    exact ⟨b, off, e, fun k hk => hc k (by omega)⟩, hm2, hf, 0, Nat.zero_le _, B1⟩
  have hsb1 : Hid (sb < w1.heap.size) := B1.lt
  clear B1 K0 hr hnc G1 hsb
  have K1 := hide (build_any (base0G W) w1 sb m c' p f S1.out)
  go_wp2_with fail
  refine K1.out.mono ?_
  rintro e w2 ⟨v, u, n, k, x, I, rfl, ⟨hn1, hn2⟩, hk6, hx, hi, O1, O2, BU, S2⟩
  obtain ⟨q1, d1, rfl, hc1⟩ := own_cap O1
  obtain ⟨q2, d2, rfl, hc2⟩ := own_cap O2
  have T2 := hide O1
  have U2 := hide O2
  have S2 := hide S2
  clear K1 S1 O1 O2 BU hm1 hm2 hx hi
  go_wp2_with fail
  generalize w1.heap.size = base at *
  go_loopg [6] 6 (fun g1 vk wr => ∃ i : Nat, vk = .int .i64 (i : Int) ∧ i ≤ 5 ∧ 5 - i < g1 ∧ Hid (SR (base0G W) wr sb p m c' f) ∧ Hid (wr.ownsRow base 42 2 (.slice q1 n d1) n (flat n 2 (trC x))) ∧ Hid (wr.ownsRow base 44 4 (.slice q2 k d2) k (flat k 4 (itC I))))
  case atStart => exact ⟨0, by go_num, by omega, by omega, S2, T2, U2⟩
  case round =>
    clear S2 T2 U2
    obtain ⟨wo, rfl⟩ : ∃ wo : World, wo = wr := ⟨_, rfl⟩
    obtain ⟨i, rfl, hi, hg, S, T, U⟩ := hrel
    by_cases hlt : i < 5
    · have hltz : (i : Int) < 5 := by omega
      have hi0 : (0 : Int) ≤ (i : Int) := by omega
      have LT : Hid (∀ w, Kept sb wo w → SRow w q1 n 2 (trC x) ∧ SRow w q2 k 4 (itC I)) := fun w h => ⟨srow_of_own (own_kept T.out hsb1.out h), srow_of_own (own_kept U.out hsb1.out h)⟩
      go_wp2_with fail
      refine MJ.wp_region_free (fun w => (Kept sb wo w ∧ SR (base0G W) w sb p m c' f)) (R5 sb i) [0, 2, 3, 5, 8, 9] [(18, 0), (20, 2), (21, 3), (23, 5), (26, 8), (27, 9)] (by kernel_rfl) (by kernel_rfl) (by simp) ?h0 ?_
      case h0 => exact ⟨(Kept.refl sb wo).drewN 1, S.out.grew ((Grew.refl wo).drew)⟩
      refine MJ.lex_free (by rfl) rfl ?_ ?_
      · rintro vs w ⟨hB, hS⟩ _
        have hne : w.heap.size ≠ sb := by obtain ⟨t, _, k⟩ := hS.src; have := k.lt; omega
        have hBw : Below w.heap.size w (w.alloc (.cells tvL.toArray 3)) := (Below.refl _ _).alloc (Nat.le_refl _) _
        have FIN : Hid (((Kept sb wo (w.alloc (.cells tvL.toArray 3)) ∧ SR (base0G W) (w.alloc (.cells tvL.toArray 3)) sb p m c' f)) ∧ R5 sb i 0 (.slice (some ⟨w.heap.size, 0, none⟩) 5 5) (w.alloc (.cells tvL.toArray 3)) ∧ MJ.Stays (R5 sb i) w (w.alloc (.cells tvL.toArray 3))) :=
          ⟨⟨hB.then hBw, hS.grew ((Grew.refl w).alloc _)⟩, ⟨_, rfl, hne, Blk.new rfl⟩, fun b u h => h.kept (Kept.of hBw)⟩
        clear hB hS hBw
        simp [go_sem, evS, List.lookup]
        exact FIN.out
      repeat (first | (refine MJ.lex_skip rfl (by rfl) ?_) | (refine MJ.lex_calm rfl (by rfl) (fun K hK => ?_); apply Exists.intro; refine ⟨fun W hW => ?_, ?_⟩; (dsimp only at hW; go_simp; exact rfl); go_simp; refine hK _ ?_; clear hK K))
      refine MJ.lex_free (by rfl) rfl ?_ ?_
      · rintro vs w ⟨hB, hS⟩ hR
        obtain ⟨b, e0, hne, hb⟩ := hR 0 (by simp) (by kernel_rfl)
        replace e0 : vs 0 = .slice (some ⟨b, 0, none⟩) 5 5 := e0
        have FIN : Hid (((Kept sb wo w ∧ SR (base0G W) w sb p m c' f)) ∧ R5 sb i 2 (.pointer (some ⟨b, i, none⟩)) w ∧ MJ.Stays (R5 sb i) w w) := ⟨⟨hB, hS⟩, ⟨b, rfl, hne, hb⟩, fun _ _ h => h⟩
        clear hR hB hS hb
        simp [go_sem, evS, List.lookup, e0, hltz, hi0]
        exact FIN.out
      refine MJ.lex_free (by rfl) rfl ?_ ?_
      · rintro vs w ⟨hB, hS⟩ hR
        obtain ⟨b, e3, hne, hb⟩ := hR 2 (by simp) (by kernel_rfl)
        replace e3 : vs 2 = .pointer (some ⟨b, i, none⟩) := e3
        have ck : w.cell? ⟨b, i, none⟩ = some (.int .i64 (tvF i)) := hb.cell i (tv_at hlt)
        have FIN : Hid (((Kept sb wo w ∧ SR (base0G W) w sb p m c' f)) ∧ R5 sb i 3 (.int .i64 (tvF i)) w ∧ MJ.Stays (R5 sb i) w w) := ⟨⟨hB, hS⟩, rfl, fun _ _ h => h⟩
        clear hR hB hS hb
        simp [go_sem, evS, List.lookup, e3, ck]
        exact FIN.out
      repeat (first | (refine MJ.lex_skip rfl (by rfl) ?_) | (refine MJ.lex_calm rfl (by rfl) (fun K hK => ?_); apply Exists.intro; refine ⟨fun W hW => ?_, ?_⟩; (dsimp only at hW; go_simp; exact rfl); go_simp; refine hK _ ?_; clear hK K))
      refine MJ.lex_free (by rfl) rfl ?_ ?_
      · rintro vs w ⟨hB, hS⟩ _
        have KN := hide (N_any (base0G W) w sb m c' p f 12 hS (by decide) (by decide))
        have hB := hide hB
        clear hS
        simp [go_sem, evS, List.lookup]
        refine KN.out.mono ?_
        rintro e w' ⟨z, rfl, hz', q, SS⟩
        exact ⟨_, rfl, ⟨hB.out.trans (Kept.of_but q), SS⟩, ⟨z, hz', rfl⟩, fun b u h => h.kept (Kept.of_but q)⟩
      repeat (first | (refine MJ.lex_skip rfl (by rfl) ?_) | (refine MJ.lex_calm rfl (by rfl) (fun K hK => ?_); apply Exists.intro; refine ⟨fun W hW => ?_, ?_⟩; (dsimp only at hW; go_simp; exact rfl); go_simp; refine hK _ ?_; clear hK K))
      refine MJ.lex_free (by rfl) rfl ?_ ?_
      · rintro vs w ⟨hB, hS⟩ hR
        have e3 : vs 3 = .int .i64 (tvF i) := hR 3 (by simp) (by kernel_rfl)
        obtain ⟨z, hz', e5⟩ := hR 5 (by simp) (by kernel_rfl)
        replace e5 : vs 5 = .int .i64 z := e5
        obtain ⟨h1, h2⟩ := LT.out w hB
        have KS := hide (SC.out (tvF i) z q1 q2 n k d1 d2 x I w h1 h2 hc1 (by omega) (by omega))
        have sbl : sb < w.heap.size := by obtain ⟨t, _, k⟩ := hS.src; exact k.lt
        have hB := hide hB
        have hS := hide hS
        clear hR h1 h2
        simp [go_sem, evS, List.lookup, e3, e5]
        refine KS.out.mono ?_
        rintro e w' ⟨rfl, h⟩
        exact ⟨_, rfl, ⟨hB.out.then h, hS.out.same (base0G_grew ((base0G_below hS.out.g).trans (h.mono (base0G_below hS.out.g).size))) (h.block sb sbl)⟩, rfl, fun b u h' => h'.kept (Kept.of h)⟩
      refine MJ.lex_free (by rfl) rfl ?_ ?_
      · rintro vs w ⟨hB, hS⟩ hR
        have e8 : vs 8 = .bool true := hR 8 (by simp) (by kernel_rfl)
        have FIN : Hid (((Kept sb wo w ∧ SR (base0G W) w sb p m c' f)) ∧ R5 sb i 9 (.bool false) w ∧ MJ.Stays (R5 sb i) w w) := ⟨⟨hB, hS⟩, rfl, fun _ _ h => h⟩
        clear hR hB hS
        simp [go_sem, evS, List.lookup, e8]
        exact FIN.out
      refine MJ.lex_nil ?_
      rintro vs w3 ⟨hB, hS⟩ hR
      have e9 : vs 9 = .bool false := hR 9 (by simp)
      have S3 := hide hS
      have T3 : Hid (w3.ownsRow base 42 2 (.slice q1 n d1) n (flat n 2 (trC x))) := own_kept T.out hsb1.out hB
      have U3 : Hid (w3.ownsRow base 44 4 (.slice q2 k d2) k (flat k 4 (itC I))) := own_kept U.out hsb1.out hB
      clear hB hR hS S T U LT
      simp only [fillS, List.foldl_cons, List.foldl_nil, e9]
      clear e9
      go_simp
      go_wp2_with fail
      go_roundg (5 - i)
      case measure => exact hg
      case rel => exact ⟨i + 1, by go_num, hlt, Nat.sub_lt_sub_left hlt (Nat.lt_succ_self i), S3, T3, U3⟩
    · have hltz : ¬ (i : Int) < 5 := by omega
      have B : Hid (Below W.heap.size W wo) := base0G_below S.out.g
      clear S T U
      go_wp2_with fail
      refine (A.out wo).mono ?_
      rintro e wz ⟨rfl, h⟩
      have BZ : Hid (Below W.heap.size W wz) := B.out.trans (h.mono B.out.size)
      clear h B
      go_wp2_with fail
      go_ret
      exact ⟨rfl, BZ.out⟩
end Go.Proofs.Ytdoenkngmgclmaa
/- What the law GridFills runs, where Tracks, Least and Place answer as the chapter asks; no other condition. -/
namespace Go.Proofs.Ytdoenkngmgclmaa
open Go.RowKit Go.Sort
set_option linter.unusedVariables false
set_option linter.unusedSimpArgs false

theorem hasF_iff (t : Nat → Tk) : ∀ n, hasF t 0 n = true ↔ ∃ i, i < n ∧ (t i).kd = 2
  | 0 => ⟨fun h => Bool.noConfusion h, fun ⟨i, h, _⟩ => absurd h (Nat.not_lt_zero _)⟩
  | n + 1 => by
    rw [hasF, Bool.or_eq_true, hasF_iff t n, decide_eq_true_eq, Nat.zero_add]
    constructor
    · rintro (⟨j, h1, h2⟩ | h)
      · exact ⟨j, by omega, h2⟩
      · exact ⟨n, by omega, h⟩
    · rintro ⟨j, h1, h2⟩
      by_cases h : j = n
      · subst h; exact Or.inr h2
      · exact Or.inl ⟨j, by omega, h2⟩
set_option maxRecDepth 100000 in
set_option maxHeartbeats 40000000 in
theorem gfi_core (hT : KTk 16) (hL : KLs 18) (hP : KPl 9) (p : Option Addr) (n0 c0 : Nat) (f : Nat → Int) (av : Int) (W : World) (hnc : n0 ≤ c0) (hr : Reads W p n0 f) (hf : ∀ k, -9223372036854775808 ≤ f k ∧ f k ≤ 9223372036854775807) :
    Calls Try.prog 7 #[.slice p n0 c0, .int .i64 av] W fun e w' => e = .returned (.bool true) ∧ Below W.heap.size W w' := by
  rcases (show av < 0 ∨ (0 ≤ av ∧ 1048576 < av) ∨ (0 ≤ av ∧ av ≤ 1048576) by omega) with h | ⟨h, h'⟩ | ⟨ha1, ha2⟩
  · have d1 : decide (av < 0) = true := decide_eq_true h
    clear hT hL hP hr
    go_enter Try.func7, Try.ntmps7
    go_wp2_with fail
    go_ret
    exact ⟨rfl, Below.refl _ _⟩
  · have d1 : decide (av < 0) = false := decide_eq_false (by omega)
    have d2 : decide (1048576 < av) = true := decide_eq_true h'
    clear hT hL hP hr
    go_enter Try.func7, Try.ntmps7
    go_wp2_with fail
    go_ret
    exact ⟨rfl, Below.refl _ _⟩
  have d1 : decide (av < 0) = false := decide_eq_false (by omega)
  have d2 : decide (1048576 < av) = false := decide_eq_false (by omega)
  have A := hide (fun w' => gawake_any (tr_of hT) hP w')
  have HT := hide hT
  have HL := hide hL
  have K0 := hide (New_any p n0 c0 W hnc (fun h => by obtain ⟨b, off, e, _⟩ := hr h; exact ⟨_, e⟩))
  clear hT hL hP
  go_enter Try.func7, Try.ntmps7
  go_wp2_with fail
  refine K0.out.mono ?_
  rintro e w1 ⟨sb, m, c', rfl, G1, hsb, ⟨hm1, hm2⟩, B1⟩
  have S1 : Hid (SR W w1 sb p m c' f) := ⟨G1, hsb, fun h0 => by
    obtain ⟨b, off, e, hc⟩ := hr (by omega)
    exact ⟨b, off, e, fun k hk => hc k (by omega)⟩, hm2, hf, 0, Nat.zero_le _, B1⟩
  have hsb1 : Hid (sb < w1.heap.size) := B1.lt
  clear B1 K0 hr hnc G1 hsb d1 d2
  have K1 := hide (build_any W w1 sb m c' p f S1.out)
  go_wp2_with fail
  refine K1.out.mono ?_
  rintro e w2 ⟨v, u, n, k, x, I, rfl, ⟨hn1, hn2⟩, hk6, hx, hi, O1, O2, BU, S2⟩
  obtain ⟨q1, d1, rfl, hc1⟩ := own_cap O1
  obtain ⟨q2, d2, rfl, hc2⟩ := own_cap O2
  have T2 := hide O1
  have U2 := hide O2
  have HX := hide hx
  have HI := hide hi
  have KN := hide (N_any W w2 sb m c' p f 10 S2 (by decide) (by decide))
  clear K1 S1 O1 O2 BU hm1 hm2 hx hi S2
  go_wp2_with fail
  generalize w1.heap.size = base at *
  refine KN.out.mono ?_
  rintro e w3 ⟨gap, rfl, ⟨hg1, hg2⟩, q, S3⟩
  have TR : Hid (SRow w3 q1 n 2 (trC x)) := srow_of_own (own_kept T2.out hsb1.out (Kept.of_but q))
  have IR : Hid (SRow w3 q2 k 4 (itC I)) := srow_of_own (own_kept U2.out hsb1.out (Kept.of_but q))
  have B3 : Hid (Below W.heap.size W w3) := S3.g.1
  have hok : allOk av gap n x k I := ⟨⟨ha1, ha2⟩, ⟨hg1, by omega⟩, HX.out, HI.out⟩
  have hok0 : allOk 0 gap n x k I := ⟨⟨by omega, by omega⟩, ⟨hg1, by omega⟩, HX.out, HI.out⟩
  have er1 : erG av gap n x k I = 0 := by unfold erG; rw [if_neg (by omega), if_pos hok]
  have er0 : erG 0 gap n x k I = 0 := by unfold erG; rw [if_neg (by omega), if_pos hok0]
  have KT := HT.out av gap q1 q2 n k d1 d2 x I w3 TR.out IR.out hc1 (by omega) (by omega)
  have KL := fun w' (h : Below w3.heap.size w3 w') => HL.out gap q1 q2 n k d1 d2 x I w' (TR.out.below h) (IR.out.below h) hc1 (by omega) (by omega)
  simp only [er1, er0, if_true, eq_self_iff_true] at KT KL
  replace KT := hide KT
  replace KL := hide KL
  have GP : Hid (0 ≤ gap ∧ gap ≤ 1048576) := ⟨hg1, by omega⟩
  have FIX : Hid (∀ i, (x i).kd = 0 → trF av x gap I n k i = (x i).nn) := fun i h => tr_fixed h
  have BD : Hid (∀ i, i < n → 0 ≤ trF av x gap I n k i ∧ trF av x gap I n k i ≤ 4194304) := fun i hi => tr_bd ⟨ha1, ha2⟩ (by omega) (by omega) GP.out HX.out HI.out hi
  have ITM : Hid (∀ j, j < k → (I j).sp = 1 → ¬ (x (aG (I j))).kd = 0 → (I j).mn ≤ trF av x gap I n k (aG (I j))) := fun j hj h1 h0 => tr_item GP.out HX.out HI.out hj h1 h0
  have TOT : Hid (totG gap (lqF x gap I n k) n ≤ sumF (trF av x gap I n k) n + gpT gap n) := tr_total hn1 GP.out HX.out HI.out
  have FIL : Hid (hasF x 0 n = true → totG gap (lqF x gap I n k) n ≤ av → sumF (trF av x gap I n k) n + gpT gap n = av) := fun h hl => tr_fills hn1 (by omega) ⟨ha1, ha2⟩ GP.out HX.out HI.out ((hasF_iff x n).1 h) hl
  have SBD := sumF_bound (f := trF av x gap I n k) (B := 4194304) n BD.out
  have TBD : Hid (0 ≤ totG gap (lqF x gap I n k) n ∧ totG gap (lqF x gap I n k) n ≤ 4294967296) := tot_bd (by omega) GP.out (lq_bd (by omega) hok0)
  have GT : Hid (gap * ((n : Int) - 1) = gpT gap n) := rfl
  have GTB : Hid (0 ≤ gpT gap n ∧ gpT gap n ≤ 100) := by
    show _ ∧ _
    unfold gpT
    have a := Int.mul_nonneg hg1 (show 0 ≤ (n : Int) - 1 by omega)
    have b := Int.mul_le_mul (show gap ≤ 9 by omega) (show (n : Int) - 1 ≤ 4 by omega) (by omega) (by omega)
    omega
  have SBB : Hid (0 ≤ sumF (trF av x gap I n k) n ∧ sumF (trF av x gap I n k) n ≤ 100000000) := by show _ ∧ _; omega
  clear SBD hok hok0 er1 er0 HT HL T2 U2 S3 KN q
  generalize totG gap (lqF x gap I n k) n = least at *
  generalize trF av x gap I n k = tr at *
  go_wp2_with fail
  refine KT.out.mono ?_
  rintro e w4 ⟨qr, dr, rfl, R4, h⟩
  have R4 := hide R4
  have B4 : Hid (Below w3.heap.size w3 w4) := h
  clear h KT
  have hnz : ((n : Int) != (n : Int)) = false := by simp
  go_wp2_with fail
  go_loopg [11, 12] (n + 1) (fun g1 vf vk wr => ∃ i : Nat, vf = .bool (hasF x 0 i) ∧ vk = .int .i64 (i : Int) ∧ i ≤ n ∧ n - i < g1 ∧ Hid (Below w3.heap.size w3 wr) ∧ Hid (Reads wr qr n tr))
  case atStart => exact ⟨0, rfl, by go_num, by omega, by omega, B4, R4⟩
  case round =>
    clear B4 R4
    obtain ⟨wo, rfl⟩ : ∃ wo : World, wo = wr := ⟨_, rfl⟩
    obtain ⟨i, rfl, rfl, hi, hg, B, R⟩ := hrel
    by_cases hlt : i < n
    · have hltz : (i : Int) < (n : Int) := by omega
      have hi0 : (0 : Int) ≤ (i : Int) := by omega
      obtain ⟨b, off, rfl, hb⟩ := R.out (by omega)
      obtain ⟨tb, toff, rfl, htb, htc⟩ := (TR.out.below B.out) (by omega)
      have c0 : wo.cell? ⟨tb, toff + i * 2, none⟩ = some (.int .i64 (x i).kd) := htc i hlt 0 (by decide)
      have c1 : wo.cell? ⟨tb, toff + i * 2 + 1, none⟩ = some (.int .i64 (x i).nn) := htc i hlt 1 (by decide)
      have ca : wo.cell? ⟨b, off + i, none⟩ = some (.int .i64 (tr i)) := hb i hlt
      have HF1 : Hid (hasF x 0 (i + 1) = (hasF x 0 i || decide ((x i).kd = 2))) := by show _ = _; rw [hasF, Nat.zero_add]
      have FX := hide (FIX.out i)
      obtain ⟨b1, b2⟩ := BD.out i hlt
      have kd3 := (HX.out i hlt).1
      have hai : decide (tr i < 0) = false := decide_eq_false (by omega)
      have hai2 : ¬ tr i < 0 := by omega
      have NB : Hid (∀ q, Below w3.heap.size w3 (wo.drewN q)) := fun q => below_drewN B.out q
      have NR : Hid (∀ q, Reads (wo.drewN q) (some ⟨b, off, none⟩) n tr) := fun q => R.out
      clear hb htb htc B R
      generalize hasF x 0 i = h0 at *
      generalize (x i).kd = kd at *
      generalize (x i).nn = nn at *
      generalize tr i = ti at *
      rcases (show kd = 0 ∨ kd = 1 ∨ kd = 2 by omega) with rfl | rfl | rfl
      · have e9 := FX.out rfl
        subst e9
        have hne : (ti != ti) = false := by simp
        clear FX
        cases h0
        all_goals
          replace HF1 := hide (HF1.out.trans (by simp; rfl))
          go_wp2_with fail
          go_quiet (fail)
          have NB := NB.out nq
          have NR := NR.out nq
          clear c0 c1 ca
          generalize wo.drewN nq = w5 at *
          go_wp2_with fail
          go_roundg (n - i)
          case measure => omega
          case rel => exact ⟨i + 1, by rw [HF1.out], by go_num, by omega, by omega, NB, NR⟩
      · clear FX
        cases h0
        all_goals
          replace HF1 := hide (HF1.out.trans (by simp; rfl))
          go_wp2_with fail
          go_quiet (fail)
          have NB := NB.out nq
          have NR := NR.out nq
          clear c0 c1 ca
          generalize wo.drewN nq = w5 at *
          go_wp2_with fail
          go_roundg (n - i)
          case measure => omega
          case rel => exact ⟨i + 1, by rw [HF1.out], by go_num, by omega, by omega, NB, NR⟩
      · clear FX
        cases h0
        all_goals
          replace HF1 := hide (HF1.out.trans (by simp; rfl))
          go_wp2_with fail
          go_quiet (fail)
          have NB := NB.out nq
          have NR := NR.out nq
          clear c0 c1 ca
          generalize wo.drewN nq = w5 at *
          go_wp2_with fail
          go_roundg (n - i)
          case measure => omega
          case rel => exact ⟨i + 1, by rw [HF1.out], by go_num, by omega, by omega, NB, NR⟩
    · have hltz : ¬ (i : Int) < (n : Int) := by omega
      obtain rfl : n = i := by omega
      have B5 := B
      have R5 := R
      clear B R
      go_wp2_with fail
      go_loopg [13] (k + 1) (fun g1 vk wr => ∃ j : Nat, vk = .int .i64 (j : Int) ∧ j ≤ k ∧ k - j < g1 ∧ Hid (Below w3.heap.size w3 wr) ∧ Hid (Reads wr qr n tr))
      case atStart => exact ⟨0, by go_num, by omega, by omega, B5, R5⟩
      case round =>
        clear B5 R5
        obtain ⟨wq, rfl⟩ : ∃ wq : World, wq = wr := ⟨_, rfl⟩
        obtain ⟨j, rfl, hj, hg2', B, R⟩ := hrel
        by_cases hlj : j < k
        · have hljz : (j : Int) < (k : Int) := by omega
          have hj0 : (0 : Int) ≤ (j : Int) := by omega
          obtain ⟨b, off, rfl, hb⟩ := R.out (by omega)
          obtain ⟨ib, ioff, rfl, hib, hic⟩ := (IR.out.below B.out) (by omega)
          obtain ⟨tb, toff, rfl, htb, htc⟩ := (TR.out.below B.out) (by omega)
          obtain ⟨ea, ep, hap, hp1⟩ := aG_eq (HI.out j hlj)
          have han : aG (I j) < n := by omega
          have k0 : wq.cell? ⟨ib, ioff + j * 4, none⟩ = some (.int .i64 (I j).at_) := hic j hlj 0 (by decide)
          have k1 : wq.cell? ⟨ib, ioff + j * 4 + 1, none⟩ = some (.int .i64 (I j).sp) := hic j hlj 1 (by decide)
          have k2 : wq.cell? ⟨ib, ioff + j * 4 + 2, none⟩ = some (.int .i64 (I j).mn) := hic j hlj 2 (by decide)
          have k3 : wq.cell? ⟨ib, ioff + j * 4 + 3, none⟩ = some (.int .i64 (I j).mx) := hic j hlj 3 (by decide)
          have c0 : wq.cell? ⟨tb, toff + aG (I j) * 2, none⟩ = some (.int .i64 (x (aG (I j))).kd) := htc _ han 0 (by decide)
          have ca : wq.cell? ⟨b, off + aG (I j), none⟩ = some (.int .i64 (tr (aG (I j)))) := hb _ han
          have IT := hide (ITM.out j hlj)
          have C0 : Hid (∀ o, (wq.alloc o).cell? ⟨tb, toff + aG (I j) * 2, none⟩ = some (.int .i64 (x (aG (I j))).kd)) := fun o => (((Below.refl wq.heap.size wq).alloc (Nat.le_refl _) o).cell (p := ⟨tb, toff + aG (I j) * 2, none⟩) htb).trans c0
          have CA : Hid (∀ o, (wq.alloc o).cell? ⟨b, off + aG (I j), none⟩ = some (.int .i64 (tr (aG (I j))))) := fun o => (((Below.refl wq.heap.size wq).alloc (Nat.le_refl _) o).cell (p := ⟨b, off + aG (I j), none⟩) (lt_of_cell ca)).trans ca
          have NB : Hid (∀ o q, Below w3.heap.size w3 ((wq.alloc o).drewN q)) := fun o q => below_drewN (B.out.alloc B.out.size o) q
          have NR : Hid (∀ o q, Reads ((wq.alloc o).drewN q) (some ⟨b, off, none⟩) n tr) := fun o q => R.out.below (below_drewN ((Below.refl wq.heap.size wq).alloc (Nat.le_refl _) o) q)
          clear hb hib hic htb htc B R c0 ca hap hp1 ep
          rw [← ea] at k0
          clear ea
          generalize aG (I j) = a at *
          generalize (I j).sp = sp at *
          generalize (I j).mn = mn at *
          generalize (I j).mx = mx at *
          generalize (x a).kd = kd at *
          generalize tr a = ta at *
          have C0 := C0.out (.cells #[.int .i64 (a : Int), .int .i64 sp, .int .i64 mn, .int .i64 mx] 44)
          have CA := CA.out (.cells #[.int .i64 (a : Int), .int .i64 sp, .int .i64 mn, .int .i64 mx] 44)
          have NB := hide (NB.out (.cells #[.int .i64 (a : Int), .int .i64 sp, .int .i64 mn, .int .i64 mx] 44))
          have NR := hide (NR.out (.cells #[.int .i64 (a : Int), .int .i64 sp, .int .i64 mn, .int .i64 mx] 44))
          have XB : Hid (Blk (wq.alloc (.cells #[.int .i64 (a : Int), .int .i64 sp, .int .i64 mn, .int .i64 mx] 44)) wq.heap.size 44 [.int .i64 (a : Int), .int .i64 sp, .int .i64 mn, .int .i64 mx]) := Blk.new rfl
          have x0 := XB.out.cell 0 rfl
          have x1 := XB.out.cell 1 rfl
          have x2 := XB.out.cell 2 rfl
          have hat0 : (0 : Int) ≤ (a : Int) := by omega
          have hat1 : (a : Int) < (n : Int) := by omega
          by_cases h1 : sp = 1
          case neg =>
            have e1 : (sp == 1) = false := by simpa using h1
            clear IT
            go_wp2_with fail
            clear k0 k1 k2 k3
            generalize wq.alloc (.cells #[.int .i64 (a : Int), .int .i64 sp, .int .i64 mn, .int .i64 mx] 44) = w5 at *
            generalize wq.heap.size = xb at *
            go_quiet (fail)
            have NB := NB.out nq
            have NR := NR.out nq
            clear C0 CA XB x0 x1 x2
            generalize w5.drewN nq = w6 at *
            go_wp2_with fail
            go_roundg (k - j)
            case measure => omega
            case rel => exact ⟨j + 1, by go_num, by omega, by omega, NB, NR⟩
          have e1 : (sp == 1) = true := by simpa using h1
          by_cases h0 : kd = 0
          case pos =>
            have e2 : (kd != 0) = false := by simpa using h0
            clear IT h1 h0
            go_wp2_with fail
            clear k0 k1 k2 k3
            generalize wq.alloc (.cells #[.int .i64 (a : Int), .int .i64 sp, .int .i64 mn, .int .i64 mx] 44) = w5 at *
            generalize wq.heap.size = xb at *
            go_quiet (fail)
            have NB := NB.out nq
            have NR := NR.out nq
            clear C0 CA XB x0 x1 x2
            generalize w5.drewN nq = w6 at *
            go_wp2_with fail
            go_roundg (k - j)
            case measure => omega
            case rel => exact ⟨j + 1, by go_num, by omega, by omega, NB, NR⟩
          have e2 : (kd != 0) = true := by simpa using h0
          have it := IT.out h1 h0
          have e3 : decide (ta < mn) = false := decide_eq_false (by omega)
          have e4 : ¬ ta < mn := by omega
          clear IT h1 h0
          go_wp2_with fail
          clear k0 k1 k2 k3
          generalize wq.alloc (.cells #[.int .i64 (a : Int), .int .i64 sp, .int .i64 mn, .int .i64 mx] 44) = w5 at *
          generalize wq.heap.size = xb at *
          go_quiet (fail)
          have NB := NB.out nq
          have NR := NR.out nq
          clear C0 CA XB x0 x1 x2
          generalize w5.drewN nq = w6 at *
          go_wp2_with fail
          go_roundg (k - j)
          case measure => omega
          case rel => exact ⟨j + 1, by go_num, by omega, by omega, NB, NR⟩
        · have hljz : ¬ (j : Int) < (k : Int) := by omega
          obtain rfl : k = j := by omega
          have SM := hide (rSum_any qr n dr tr wq R.out (by omega) (fun i hi => by have := BD.out i hi; omega))
          have KL1 := hide (fun w' (h : Below wq.heap.size wq w') => KL.out w' (B.out.trans (h.mono B.out.size)))
          have BW : Hid (Below W.heap.size W wq) := B3.out.trans (B.out.mono B3.out.size)
          obtain ⟨s1, s2⟩ := SBB.out
          obtain ⟨g1, g2⟩ := GTB.out
          obtain ⟨l1, l2⟩ := TBD.out
          clear B R KL FIX BD ITM hi
          generalize sumF tr n = S at *
          generalize hasF x 0 n = fr at *
          have wn : IntKind.i64.wrap ((n : Int) - 1) = (n : Int) - 1 := wr (by omega) (by omega)
          have wg : IntKind.i64.wrap (gap * ((n : Int) - 1)) = gpT gap n := by rw [GT.out]; exact wr (by omega) (by omega)
          generalize gpT gap n = G at *
          have wsg : IntKind.i64.wrap (S + G) = S + G := wr (by omega) (by omega)
          go_wp2_with fail
          refine SM.out.mono ?_
          rintro e w' ⟨rfl, hw'⟩
          subst w'
          clear SM
          go_wp2_with fail
          refine (KL1.out wq (Below.refl _ _)).mono ?_
          rintro e w7 ⟨rfl, h⟩
          have B7 : Hid (Below W.heap.size W w7) := BW.out.trans (h.mono BW.out.size)
          clear KL1 h BW wsg wg wn
          have ht := TOT.out
          have ht1 : decide (least ≤ S + G) = true := decide_eq_true ht
          have FI := hide FIL.out
          have AW := hide (A.out w7)
          clear A FIL TOT SBB GTB TBD GT GP HX HI TR IR B3
          cases fr
          · clear FI
            go_wp2_with fail
            refine AW.out.mono ?_
            rintro e wz ⟨rfl, h⟩
            have BZ : Hid (Below W.heap.size W wz) := B7.out.trans (h.mono B7.out.size)
            clear h B7 AW
            go_wp2_with fail
            go_ret
            exact ⟨rfl, BZ.out⟩
          · by_cases hal : av < least
            · have hal1 : decide (av < least) = true := decide_eq_true hal
              clear FI
              go_wp2_with fail
              refine AW.out.mono ?_
              rintro e wz ⟨rfl, h⟩
              have BZ : Hid (Below W.heap.size W wz) := B7.out.trans (h.mono B7.out.size)
              clear h B7 AW
              go_wp2_with fail
              go_ret
              exact ⟨rfl, BZ.out⟩
            · have hal1 : decide (av < least) = false := decide_eq_false hal
              have e9 := FI.out rfl (by omega)
              have e8 : (S + G == av) = true := by simpa using e9
              clear FI e9
              go_wp2_with fail
              refine AW.out.mono ?_
              rintro e wz ⟨rfl, h⟩
              have BZ : Hid (Below W.heap.size W wz) := B7.out.trans (h.mono B7.out.size)
              clear h B7 AW
              go_wp2_with fail
              go_ret
              exact ⟨rfl, BZ.out⟩
end Go.Proofs.Ytdoenkngmgclmaa
