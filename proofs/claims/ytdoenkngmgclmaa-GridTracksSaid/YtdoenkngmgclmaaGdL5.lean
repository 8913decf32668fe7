/- What the law GridTracks runs, where Tracks, Least, Most, Place and their references answer as the chapter asks; no other condition. -/
import Derived.Test.YtdoenkngmgclmaaGdL4
import Derived.Test.YtdoenkngmgclmaaGdBu
import Derived.Test.YtdoenkngmgclmaaMixF
namespace Go.Proofs.Ytdoenkngmgclmaa
open Go.RowKit Go.Sort
set_option linter.unusedVariables false
set_option linter.unusedSimpArgs false

/-- A base world with no count of draws. -/
def base0G (W : World) : World := { W with drawn := 0 }
theorem base0G_grew {W w : World} (h : Below W.heap.size W w) : Grew (base0G W) w := ⟨⟨h.os, h.tape, h.output, h.size, h.block⟩, Nat.zero_le _⟩
theorem base0G_below {W w : World} (h : Grew (base0G W) w) : Below W.heap.size W w := ⟨h.1.os, h.1.tape, h.1.output, h.1.size, h.1.block⟩
theorem Kept.of_but {sb : Nat} {w w' : World} (h : But sb w w') : Kept sb w w' := ⟨h.os, h.tape, h.output, h.size, h.block⟩
theorem own_cap {w : World} {base : Nat} {e : TypeId} {size : Nat} {v : Value} {n : Nat} {xs : List Value} (h : w.ownsRow base e size v n xs) : ∃ p c, v = .slice p n c ∧ n ≤ c := by
  rcases h.2 with ⟨rfl, rfl⟩ | ⟨g, cap, cur, rfl, _, _, h3, _⟩
  · exact ⟨none, 0, rfl, Nat.le_refl _⟩
  · exact ⟨_, cap, rfl, h3⟩
theorem srow_of_own {w : World} {base : Nat} {e : TypeId} {s : Nat} {q : Option Addr} {n c : Nat} {f : Nat → Nat → Value} (h : w.ownsRow base e s (.slice q n c) n (flat n s f)) : SRow w q n s f := by
  obtain ⟨p', c', e', hs⟩ := own_srowG h
  simp at e'
  rw [e'.1]
  exact hs
theorem own_kept {w w' : World} {base sb : Nat} {e : TypeId} {size : Nat} {v : Value} {n : Nat} {xs : List Value} (h : w.ownsRow base e size v n xs) (hs : sb < base) (k : Kept sb w w') : w'.ownsRow base e size v n xs := by
  have hl := h.lt
  refine ⟨h.1, ?_⟩
  rcases h.2 with hn | ⟨g, cap, cur, rfl, h1, h2, h3⟩
  · exact Or.inl hn
  · have := hl g rfl
    exact Or.inr ⟨g, cap, cur, rfl, h1, (k.block g this.2 (by omega)).trans h2, h3⟩
def tvL : List Value := [.int .i64 0, .int .i64 20, .int .i64 100, .int .i64 300, .int .i64 1000]
def tvF (k : Nat) : Int := match k with
  | 0 => 0 | 1 => 20 | 2 => 100 | 3 => 300 | _ => 1000
theorem tv_at {k : Nat} (hk : k < 5) : tvL[k]? = some (.int .i64 (tvF k)) := by
  rcases (show k = 0 ∨ k = 1 ∨ k = 2 ∨ k = 3 ∨ k = 4 by omega) with rfl | rfl | rfl | rfl | rfl <;> rfl
def R5 (sb i : Nat) (b : Nat) (v : Value) (w : World) : Prop :=
  match b with
  | 0 => ∃ g, v = .slice (some ⟨g, 0, none⟩) 5 5 ∧ g ≠ sb ∧ Blk w g 3 tvL
  | 2 => ∃ g, v = .pointer (some ⟨g, i, none⟩) ∧ g ≠ sb ∧ Blk w g 3 tvL
  | 3 => v = .int .i64 (tvF i)
  | 5 => ∃ z : Int, (0 ≤ z ∧ z < 12) ∧ v = .int .i64 z
  | 8 => v = .bool true
  | _ => v = .bool false
theorem R5.kept {sb i b : Nat} {v : Value} {w w' : World} (h : R5 sb i b v w) (k : Kept sb w w') : R5 sb i b v w' := by
  match b, h with
  | 0, ⟨g, e, h1, h2⟩ => exact ⟨g, e, h1, h2.kept k h1⟩
  | 1, h => exact h
  | 2, ⟨g, e, h1, h2⟩ => exact ⟨g, e, h1, h2.kept k h1⟩
  | 3, h => exact h
  | 4, h => exact h
  | 5, h => exact h
  | 6, h => exact h
  | 7, h => exact h
  | 8, h => exact h
  | b + 9, h => exact h
set_option maxRecDepth 100000 in
set_option maxHeartbeats 20000000 in
theorem gtr_core (hT : KTk 16) (hL : KLs 18) (hM : KMs 26) (hP : KPl 9) (p : Option Addr) (n0 c0 : Nat) (f : Nat → Int) (W : World) (hnc : n0 ≤ c0) (hr : Reads W p n0 f) (hf : ∀ k, -9223372036854775808 ≤ f k ∧ f k ≤ 9223372036854775807) :
    Calls Try.prog 6 #[.slice p n0 c0] W fun e w' => e = .returned (.bool true) ∧ Below W.heap.size W w' := by
  have A := hide (fun w' => gawake_any (tr_of hT) hP w')
  have SC := hide (fun (av gap : Int) (p q : Option Addr) (n m c d : Nat) (t : Nat → Tk) (I : Nat → It) (w : World) (h1 : SRow w p n 2 (trC t)) (h2 : SRow w q m 4 (itC I)) (hc : n ≤ c) (hn : n ≤ 100000) (hm : m ≤ 100000) => same_core hT hL hM av gap p q n m c d t I w h1 h2 hc hn hm)
  have K0 := hide (New_any p n0 c0 W hnc (fun h => by obtain ⟨b, off, e, _⟩ := hr h; exact ⟨_, e⟩))
  clear hT hL hM hP
  go_enter Try.func6, Try.ntmps6
  go_wp2_with fail
  refine K0.out.mono ?_
  rintro e w1 ⟨sb, m, c', rfl, G1, hsb, ⟨hm1, hm2⟩, B1⟩
  have S1 : Hid (SR (base0G W) w1 sb p m c' f) := ⟨base0G_grew G1.1, hsb, fun h0 => by
    obtain ⟨b, off, e, hc⟩ := hr (by omega)
    exact ⟨b, off, e, fun k hk => hc k (by omega)⟩, hm2, hf, 0, Nat.zero_le _, B1⟩
  have hsb1 : Hid (sb < w1.heap.size) := B1.lt
  clear B1 K0 hr hnc G1 hsb
  have K1 := hide (build_any (base0G W) w1 sb m c' p f S1.out)
  go_wp2_with fail
  refine K1.out.mono ?_
  rintro e w2 ⟨v, u, n, k, x, I, rfl, ⟨hn1, hn2⟩, hk6, hx, hi, O1, O2, BU, S2⟩
  obtain ⟨q1, d1, rfl, hc1⟩ := own_cap O1
  obtain ⟨q2, d2, rfl, hc2⟩ := own_cap O2
  have T2 := hide O1
  have U2 := hide O2
  have S2 := hide S2
  clear K1 S1 O1 O2 BU hm1 hm2 hx hi
  go_wp2_with fail
  generalize w1.heap.size = base at *
  go_loopg [6] 6 (fun g1 vk wr => ∃ i : Nat, vk = .int .i64 (i : Int) ∧ i ≤ 5 ∧ 5 - i < g1 ∧ Hid (SR (base0G W) wr sb p m c' f) ∧ Hid (wr.ownsRow base 42 2 (.slice q1 n d1) n (flat n 2 (trC x))) ∧ Hid (wr.ownsRow base 44 4 (.slice q2 k d2) k (flat k 4 (itC I))))
  case atStart => exact ⟨0, by go_num, by omega, by omega, S2, T2, U2⟩
  case round =>
    clear S2 T2 U2
    obtain ⟨wo, rfl⟩ : ∃ wo : World, wo = wr := ⟨_, rfl⟩
    obtain ⟨i, rfl, hi, hg, S, T, U⟩ := hrel
    by_cases hlt : i < 5
    · have hltz : (i : Int) < 5 := by omega
      have hi0 : (0 : Int) ≤ (i : Int) := by omega
      have LT : Hid (∀ w, Kept sb wo w → SRow w q1 n 2 (trC x) ∧ SRow w q2 k 4 (itC I)) := fun w h => ⟨srow_of_own (own_kept T.out hsb1.out h), srow_of_own (own_kept U.out hsb1.out h)⟩
      go_wp2_with fail
      refine MJ.wp_region_free (fun w => (Kept sb wo w ∧ SR (base0G W) w sb p m c' f)) (R5 sb i) [0, 2, 3, 5, 8, 9] [(18, 0), (20, 2), (21, 3), (23, 5), (26, 8), (27, 9)] (by kernel_rfl) (by kernel_rfl) (by simp) ?h0 ?_
      case h0 => exact ⟨(Kept.refl sb wo).drewN 1, S.out.grew ((Grew.refl wo).drew)⟩
      refine MJ.lex_free (by rfl) rfl ?_ ?_
      · rintro vs w ⟨hB, hS⟩ _
        have hne : w.heap.size ≠ sb := by obtain ⟨t, _, k⟩ := hS.src; have := k.lt; omega
        have hBw : Below w.heap.size w (w.alloc (.cells tvL.toArray 3)) := (Below.refl _ _).alloc (Nat.le_refl _) _
        have FIN : Hid (((Kept sb wo (w.alloc (.cells tvL.toArray 3)) ∧ SR (base0G W) (w.alloc (.cells tvL.toArray 3)) sb p m c' f)) ∧ R5 sb i 0 (.slice (some ⟨w.heap.size, 0, none⟩) 5 5) (w.alloc (.cells tvL.toArray 3)) ∧ MJ.Stays (R5 sb i) w (w.alloc (.cells tvL.toArray 3))) :=
          ⟨⟨hB.then hBw, hS.grew ((Grew.refl w).alloc _)⟩, ⟨_, rfl, hne, Blk.new rfl⟩, fun b u h => h.kept (Kept.of hBw)⟩
        clear hB hS hBw
        simp [go_sem, evS, List.lookup]
        exact FIN.out
      repeat (first | (refine MJ.lex_skip rfl (by rfl) ?_) | (refine MJ.lex_calm rfl (by rfl) (fun K hK => ?_); apply Exists.intro; refine ⟨fun W hW => ?_, ?_⟩; (dsimp only at hW; go_simp; exact rfl); go_simp; refine hK _ ?_; clear hK K))
      refine MJ.lex_free (by rfl) rfl ?_ ?_
      · rintro vs w ⟨hB, hS⟩ hR
        obtain ⟨b, e0, hne, hb⟩ := hR 0 (by simp) (by kernel_rfl)
        replace e0 : vs 0 = .slice (some ⟨b, 0, none⟩) 5 5 := e0
        have FIN : Hid (((Kept sb wo w ∧ SR (base0G W) w sb p m c' f)) ∧ R5 sb i 2 (.pointer (some ⟨b, i, none⟩)) w ∧ MJ.Stays (R5 sb i) w w) := ⟨⟨hB, hS⟩, ⟨b, rfl, hne, hb⟩, fun _ _ h => h⟩
        clear hR hB hS hb
        simp [go_sem, evS, List.lookup, e0, hltz, hi0]
        exact FIN.out
      refine MJ.lex_free (by rfl) rfl ?_ ?_
      · rintro vs w ⟨hB, hS⟩ hR
        obtain ⟨b, e3, hne, hb⟩ := hR 2 (by simp) (by kernel_rfl)
        replace e3 : vs 2 = .pointer (some ⟨b, i, none⟩) := e3
        have ck : w.cell? ⟨b, i, none⟩ = some (.int .i64 (tvF i)) := hb.cell i (tv_at hlt)
        have FIN : Hid (((Kept sb wo w ∧ SR (base0G W) w sb p m c' f)) ∧ R5 sb i 3 (.int .i64 (tvF i)) w ∧ MJ.Stays (R5 sb i) w w) := ⟨⟨hB, hS⟩, rfl, fun _ _ h => h⟩
        clear hR hB hS hb
        simp [go_sem, evS, List.lookup, e3, ck]
        exact FIN.out
      repeat (first | (refine MJ.lex_skip rfl (by rfl) ?_) | (refine MJ.lex_calm rfl (by rfl) (fun K hK => ?_); apply Exists.intro; refine ⟨fun W hW => ?_, ?_⟩; (dsimp only at hW; go_simp; exact rfl); go_simp; refine hK _ ?_; clear hK K))
      refine MJ.lex_free (by rfl) rfl ?_ ?_
      · rintro vs w ⟨hB, hS⟩ _
        have KN := hide (N_any (base0G W) w sb m c' p f 12 hS (by decide) (by decide))
        have hB := hide hB
        clear hS
        simp [go_sem, evS, List.lookup]
        refine KN.out.mono ?_
        rintro e w' ⟨z, rfl, hz', q, SS⟩
        exact ⟨_, rfl, ⟨hB.out.trans (Kept.of_but q), SS⟩, ⟨z, hz', rfl⟩, fun b u h => h.kept (Kept.of_but q)⟩
      repeat (first | (refine MJ.lex_skip rfl (by rfl) ?_) | (refine MJ.lex_calm rfl (by rfl) (fun K hK => ?_); apply Exists.intro; refine ⟨fun W hW => ?_, ?_⟩; (dsimp only at hW; go_simp; exact rfl); go_simp; refine hK _ ?_; clear hK K))
      refine MJ.lex_free (by rfl) rfl ?_ ?_
      · rintro vs w ⟨hB, hS⟩ hR
        have e3 : vs 3 = .int .i64 (tvF i) := hR 3 (by simp) (by kernel_rfl)
        obtain ⟨z, hz', e5⟩ := hR 5 (by simp) (by kernel_rfl)
        replace e5 : vs 5 = .int .i64 z := e5
        obtain ⟨h1, h2⟩ := LT.out w hB
        have KS := hide (SC.out (tvF i) z q1 q2 n k d1 d2 x I w h1 h2 hc1 (by omega) (by omega))
        have sbl : sb < w.heap.size := by obtain ⟨t, _, k⟩ := hS.src; exact k.lt
        have hB := hide hB
        have hS := hide hS
        clear hR h1 h2
        simp [go_sem, evS, List.lookup, e3, e5]
        refine KS.out.mono ?_
        rintro e w' ⟨rfl, h⟩
        exact ⟨_, rfl, ⟨hB.out.then h, hS.out.same (base0G_grew ((base0G_below hS.out.g).trans (h.mono (base0G_below hS.out.g).size))) (h.block sb sbl)⟩, rfl, fun b u h' => h'.kept (Kept.of h)⟩
      refine MJ.lex_free (by rfl) rfl ?_ ?_
      · rintro vs w ⟨hB, hS⟩ hR
        have e8 : vs 8 = .bool true := hR 8 (by simp) (by kernel_rfl)
        have FIN : Hid (((Kept sb wo w ∧ SR (base0G W) w sb p m c' f)) ∧ R5 sb i 9 (.bool false) w ∧ MJ.Stays (R5 sb i) w w) := ⟨⟨hB, hS⟩, rfl, fun _ _ h => h⟩
        clear hR hB hS
        simp [go_sem, evS, List.lookup, e8]
        exact FIN.out
      refine MJ.lex_nil ?_
      rintro vs w3 ⟨hB, hS⟩ hR
      have e9 : vs 9 = .bool false := hR 9 (by simp)
      have S3 := hide hS
      have T3 : Hid (w3.ownsRow base 42 2 (.slice q1 n d1) n (flat n 2 (trC x))) := own_kept T.out hsb1.out hB
      have U3 : Hid (w3.ownsRow base 44 4 (.slice q2 k d2) k (flat k 4 (itC I))) := own_kept U.out hsb1.out hB
      clear hB hR hS S T U LT
      simp only [fillS, List.foldl_cons, List.foldl_nil, e9]
      clear e9
      go_simp
      go_wp2_with fail
      go_roundg (5 - i)
      case measure => exact hg
      case rel => exact ⟨i + 1, by go_num, hlt, Nat.sub_lt_sub_left hlt (Nat.lt_succ_self i), S3, T3, U3⟩
    · have hltz : ¬ (i : Int) < 5 := by omega
      have B : Hid (Below W.heap.size W wo) := base0G_below S.out.g
      clear S T U
      go_wp2_with fail
      refine (A.out wo).mono ?_
      rintro e wz ⟨rfl, h⟩
      have BZ : Hid (Below W.heap.size W wz) := B.out.trans (h.mono B.out.size)
      clear h B
      go_wp2_with fail
      go_ret
      exact ⟨rfl, BZ.out⟩
end Go.Proofs.Ytdoenkngmgclmaa
