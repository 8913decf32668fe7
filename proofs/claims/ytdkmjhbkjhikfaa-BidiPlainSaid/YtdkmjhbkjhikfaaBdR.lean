/- The rules N0 to N2, and all rules together, in a sequence of simple classes without brackets. -/
import Derived.Test.YtdkmjhbkjhikfaaBdN
import Derived.Test.YtdkmjhbkjhikfaaBdW
import Derived.Test.YtdkmjhbkjhikfaaChMir
namespace Go.Proofs.Ytdkmjhbkjhikfaa
open Go.RowKit Go.Sort
set_option linter.unusedVariables false
set_option linter.unusedSimpArgs false

theorem results_tmp0 {fn : Func} (h : fn.results = #[]) (tmps : Array Value) (P : Program) (w : World) : (results fn tmps).run P w = .ok (.tuple #[]) w := by simp [results, h]
set_option maxRecDepth 100000 in
set_option maxHeartbeats 2000000 in
theorem Len64_zero (w : World) : Calls Try.prog 98 #[.int .u64 0] w fun e w' => (∃ v : Int, e = .returned (.int .i64 v)) ∧ w = w' := by
  go_enter Try.func98, Try.ntmps98
  go_wp2
  go_ret
  exact ⟨⟨_, rfl⟩, rfl⟩
theorem Len_zero (w : World) : Calls Try.prog 88 #[.int .u64 0] w fun e w' => (∃ v : Int, e = .returned (.int .i64 v)) ∧ w = w' := by
  go_enter Try.func88, Try.ntmps88
  go_wp2_with fail
  refine (Len64_zero _).mono ?_
  rintro e w' ⟨⟨v, rfl⟩, rfl⟩
  go_wp2
  go_ret
  exact ⟨⟨_, rfl⟩, rfl⟩
theorem insertion_nil (v : Value) (w : World) : Calls Try.prog 89 #[.slice none 0 0, .int .i64 0, .int .i64 0, v] w fun e w' => e = .returned (.tuple #[]) ∧ w = w' := by
  go_enter Try.func89, Try.ntmps89
  go_wp2
  refine wp_loop_rounds 1 ?_
  rw [rounds_succ]
  go_wp2
  go_end0
  exact ⟨rfl, rfl⟩
theorem pdq_nil (l : Int) (v : Value) (w : World) : Calls Try.prog 87 #[.slice none 0 0, .int .i64 0, .int .i64 0, .int .i64 l, v] w fun e w' => e = .returned (.tuple #[]) ∧ w = w' := by
  go_enter Try.func87, Try.ntmps87
  go_wp2
  refine wp_loop_rounds 1 ?_
  rw [rounds_succ]
  go_wp2_with fail
  refine (insertion_nil _ _).mono ?_
  rintro e w' ⟨rfl, rfl⟩
  go_wp2
  (try simp only [Exit.inBlock, Exit.then])
  refine bodyPost_ret (results_tmp0 rfl _ _ _) rfl ?_
  exact ⟨rfl, rfl⟩
theorem sort_nil (v : Value) (w : World) : Calls Try.prog 83 #[.slice none 0 0, v] w fun e w' => e = .returned (.tuple #[]) ∧ w = w' := by
  go_enter Try.func83, Try.ntmps83
  go_wp2_with fail
  refine (Len_zero _).mono ?_
  rintro e w' ⟨⟨l, rfl⟩, rfl⟩
  go_wp2_with fail
  refine (pdq_nil l _ _).mono ?_
  rintro e w' ⟨rfl, rfl⟩
  go_wp2
  go_end0
  exact ⟨rfl, rfl⟩

/-- Block b begins with n runes. -/
def TRow (w : World) (b n : Nat) (f : Nat → Int) : Prop := ∃ cur : Array Value, w.heap[b]? = some (.cells cur 21 (0, 0)) ∧ ∀ k, k < n → cur[k]? = some (.int .i32 (f k))
theorem TRow.lt {w : World} {b n : Nat} {f : Nat → Int} (h : TRow w b n f) : b < w.heap.size := by obtain ⟨cur, h1, _⟩ := h; exact (Array.getElem?_eq_some_iff.1 h1).1
theorem TRow.cell {w : World} {b n : Nat} {f : Nat → Int} (h : TRow w b n f) {i : Nat} (hi : i < n) : w.cell? ⟨b, i, none⟩ = some (.int .i32 (f i)) := by
  obtain ⟨cur, h1, h4⟩ := h
  rw [cell_of_row w b i _ 21 (0, 0) h1]; exact h4 i hi
theorem TRow.same {w w' : World} {b n : Nat} {f : Nat → Int} (h : TRow w b n f) (g : w'.heap[b]? = w.heap[b]?) : TRow w' b n f := by obtain ⟨cur, h1, h2⟩ := h; exact ⟨cur, g.trans h1, h2⟩

set_option maxHeartbeats 4000000 in
theorem pairs_none (sb cb c gb d n tb ct : Nat) (vr : Value) (lev st en : Int) (g f tx : Nat → Int) (w : World) (H : SeqAt w sb cb c gb d n vr (.slice (some ⟨tb, 0, none⟩) n ct) lev st en g f) (hn : n ≤ 100000)
    (ht : TRow w tb n tx) (hx : ∀ k, k < n → f k = 13 → brS (tx k) = (0, 0)) (hw : ∀ k, k < n → -2147483648 ≤ tx k ∧ tx k ≤ 2147483647) :
    Calls Try.prog 73 #[.pointer (some ⟨sb, 0, none⟩)] w fun e w' => e = .returned (.slice none 0 0) ∧ Grew w w' := by
  have b3 := H.blk.cell 3 rfl
  have HB := hide H.blk
  have HR := hide H.cls
  have HT := hide ht
  have HX := hide hx
  have HW := hide hw
  clear H ht hx hw
  go_enter Try.func73, Try.ntmps73
  go_wp2
  clear b3
  go_loopg [3, 4, 15] (n + 1) (fun gh v3 v4 vk wr => ∃ (k : Nat), vk = .int .i64 (k : Int) ∧ v3 = .slice none 0 0 ∧ v4 = .slice none 0 0 ∧ k ≤ n ∧ n - k < gh ∧ Hid (Grew w wr))
  case atStart => exact ⟨0, by go_num, rfl, rfl, by omega, by omega, Grew.refl _⟩
  case round =>
    obtain ⟨wo, rfl⟩ : ∃ wo : World, wo = wr := ⟨_, rfl⟩
    obtain ⟨k, rfl, rfl, rfl, hk, hg, G⟩ := hrel
    have b1 := (HB.out.grew G.out).cell 1 rfl
    have b3 := (HB.out.grew G.out).cell 3 rfl
    by_cases hlt : k < n
    · have hltz : (k : Int) < (n : Int) := by omega
      have ck := (HR.out.same (G.out.1.block cb HR.out.lt)).cell hlt
      have tk := (HT.out.same (G.out.1.block tb HT.out.lt)).cell hlt
      by_cases e : f k = 13
      · have hb := HX.out k hlt e
        have K := hide (Bracket_any (tx k) wo (HW.out k hlt))
        rw [hb] at K
        rw [e] at ck
        clear e hb
        go_wp2_with fail
        refine K.out.mono ?_
        rintro e w1 ⟨rfl, G1⟩
        replace G1 := hide (G.out.trans G1)
        go_wp2
        go_roundg (n - k)
        case measure => omega
        case rel => exact ⟨k + 1, by go_num, rfl, rfl, by omega, by omega, G1⟩
      · obtain ⟨x, ex⟩ : ∃ x, x = f k := ⟨_, rfl⟩
        rw [← ex] at ck e
        have e2 : (x == 13) = false := by simp [e]
        clear ex
        go_wp2
        go_roundg (n - k)
        case measure => omega
        case rel => exact ⟨k + 1, by go_num, rfl, rfl, by omega, by omega, G⟩
    · have hltz : ¬ (k : Int) < (n : Int) := by omega
      go_wp2_with fail
      refine (sort_nil _ _).mono ?_
      rintro e w1 ⟨rfl, rfl⟩
      go_wp2
      go_ret
      exact ⟨rfl, G.out⟩

theorem brackets_none (sb cb c gb d n tb ct : Nat) (vr : Value) (lev st en : Int) (g f tx : Nat → Int) (w : World) (H : SeqAt w sb cb c gb d n vr (.slice (some ⟨tb, 0, none⟩) n ct) lev st en g f) (hn : n ≤ 100000)
    (ht : TRow w tb n tx) (hx : ∀ k, k < n → f k = 13 → brS (tx k) = (0, 0)) (hw : ∀ k, k < n → -2147483648 ≤ tx k ∧ tx k ≤ 2147483647) :
    Calls Try.prog 49 #[.pointer (some ⟨sb, 0, none⟩)] w fun e w' => e = .returned (.tuple #[]) ∧ Grew w w' := by
  have K := hide (pairs_none sb cb c gb d n tb ct vr lev st en g f tx w H hn ht hx hw)
  clear H ht hx hw
  go_enter Try.func49, Try.ntmps49
  go_wp2_with fail
  refine K.out.mono ?_
  rintro e w1 ⟨rfl, G⟩
  replace G := hide G
  go_wp2
  refine wp_loop_rounds 1 ?_
  rw [rounds_succ]
  go_wp2
  go_end0
  exact ⟨rfl, G.out⟩

/-- In the midst of N1 and N2. -/
def PN (n k : Nat) (lev st : Int) (g f : Nat → Int) : Prop := ∀ j, j < n → (g j = 0 → f j = 0) ∧ (g j = 1 → f j = 1) ∧ (g j = 3 → f j = 3 ∨ f j = 0) ∧ Sn (f j) ∧ (j < k → f j = 0 ∨ f j = 1 ∨ f j = 3) ∧
  ((∀ i, i < n → g i ≠ 1) ∧ st = 0 ∧ dirI lev = 0 → f j ≠ 3 ∧ f j ≠ 1)
theorem PN.start {n : Nat} {lev st : Int} {g f : Nat → Int} (hs : ∀ k, k < n → Sm (g k)) (h : P3 n st g f) : PN n 0 lev st g f := fun j hj => by
  obtain ⟨h1, h2, h3, h4, h5, h6⟩ := h j hj
  have := hs j hj
  unfold Sm at this
  refine ⟨h1, h2, h4, ?_, fun h => by omega, fun a => ⟨h6 ⟨a.1, a.2.1⟩, fun e => ?_⟩⟩
  · unfold Sn; omega
  · have := a.1 j hj; omega
theorem PN.skip {n k : Nat} {lev st : Int} {g f : Nat → Int} (h : PN n k lev st g f) (hk : f k = 0 ∨ f k = 1 ∨ f k = 3) : PN n (k + 1) lev st g f := fun j hj => by
  obtain ⟨h1, h2, h3, h4, h5, h6⟩ := h j hj
  refine ⟨h1, h2, h3, h4, fun a => ?_, h6⟩
  by_cases e : j = k
  · subst e; exact hk
  · exact h5 (by omega)
theorem PN.filled {n a b : Nat} {lev st v : Int} {g f : Nat → Int} (h : PN n a lev st g f) (hr : ∀ j, a ≤ j → j < b → f j = 12 ∨ f j = 13) (hv : v = 0 ∨ v = 1) (h0 : (∀ i, i < n → g i ≠ 1) ∧ st = 0 ∧ dirI lev = 0 → v = 0) :
    PN n b lev st g (fun j => if a ≤ j ∧ j < b then v else f j) := fun j hj => by
  obtain ⟨h1, h2, h3, h4, h5, h6⟩ := h j hj
  show (_ → (if a ≤ j ∧ j < b then v else f j) = 0) ∧ (_ → (if a ≤ j ∧ j < b then v else f j) = 1) ∧ (_ → (if a ≤ j ∧ j < b then v else f j) = 3 ∨ (if a ≤ j ∧ j < b then v else f j) = 0) ∧ Sn (if a ≤ j ∧ j < b then v else f j) ∧ (j < b → (if a ≤ j ∧ j < b then v else f j) = 0 ∨ (if a ≤ j ∧ j < b then v else f j) = 1 ∨ (if a ≤ j ∧ j < b then v else f j) = 3) ∧ (_ → (if a ≤ j ∧ j < b then v else f j) ≠ 3 ∧ (if a ≤ j ∧ j < b then v else f j) ≠ 1)
  by_cases e : a ≤ j ∧ j < b
  · simp only [if_pos e]
    have := hr j e.1 e.2
    refine ⟨fun h => ?_, fun h => ?_, fun h => ?_, ?_, fun _ => ?_, fun q => ?_⟩
    · have := h1 h; omega
    · have := h2 h; omega
    · have := h3 h; omega
    · unfold Sn; omega
    · omega
    · have := h0 q; omega
  · simp only [if_neg e]
    exact ⟨h1, h2, h3, h4, fun q => h5 (by omega), h6⟩
theorem PN.none {n k : Nat} {lev st : Int} {g f : Nat → Int} (h : PN n k lev st g f) (q : (∀ i, i < n → g i ≠ 1) ∧ st = 0 ∧ dirI lev = 0) : ∀ j, j < n → f j ≠ 1 ∧ f j ≠ 3 := fun j hj => by
  have := (h j hj).2.2.2.2.2 q; omega

set_option maxHeartbeats 4000000 in
theorem neutrals_any (sb cb c gb d n : Nat) (vr vt : Value) (lev st en : Int) (g f0 : Nat → Int) (w : World) (H : SeqAt w sb cb c gb d n vr vt lev st en g f0) (hn : n ≤ 100000) (hst : st = 0 ∨ st = 1) (hp : PN n 0 lev st g f0) :
    Calls Try.prog 50 #[.pointer (some ⟨sb, 0, none⟩)] w fun e w' => e = .returned (.tuple #[]) ∧ ∃ f, St cb c n w w' f ∧ PN n n lev st g f := by
  have S0 : Hid (St cb c n w w f0 ∧ PN n 0 lev st g f0) := ⟨⟨But.refl _ _, H.cls⟩, hp⟩
  have HH := hide H
  have b3 := H.blk.cell 3 rfl
  have HST := hide hst
  clear H hp hst
  go_enter Try.func50, Try.ntmps50
  go_wp2
  clear b3
  go_loopg [2] (n + 1) (fun gh vk wr => ∃ (k : Nat) (f : Nat → Int), vk = .int .i64 (k : Int) ∧ k ≤ n ∧ n - k < gh ∧ Hid (St cb c n w wr f ∧ PN n k lev st g f))
  case atStart => exact ⟨0, f0, by go_num, by omega, by omega, S0⟩
  case round =>
    clear S0
    obtain ⟨wo, rfl⟩ : ∃ wo : World, wo = wr := ⟨_, rfl⟩
    obtain ⟨k, f, rfl, hk, hg, S⟩ := hrel
    have HS := hide (HH.out.but S.out.1.but S.out.1.row)
    have HV : Hid (∀ j, j < n → Sn (f j)) := fun j hj => (S.out.2 j hj).2.2.2.1
    have b3 := HS.out.blk.cell 3 rfl
    have b4 := HS.out.blk.cell 4 rfl
    by_cases hlt : k < n
    · have hltz : (k : Int) < (n : Int) := by omega
      have KL := hide (listEnd_any sb cb c gb d n vr vt lev st en g f k wo HS.out HV.out hn hk)
      have KB := hide (before_any sb cb c gb d n vr vt lev st en g f k wo HS.out HV.out hn hk HST.out)
      have KA := fun a (ha : a ≤ n) => hide (after_any sb cb c gb d n vr vt lev st en g f a wo HS.out HV.out hn ha)
      have KF := fun v a b h1 h2 => hide (fill_any sb cb c gb d n vr vt lev st en v g f a b wo HS.out hn h1 h2)
      have KD := hide (direction_any lev wo)
      go_wp2_with fail
      refine KL.out.mono ?_
      rintro e w' ⟨⟨b, rfl, hab, hbn, hr, hr2⟩, rfl⟩
      by_cases hbk : b = k
      · subst hbk
        have NX : Hid (St cb c n w wo f ∧ PN n (b + 1) lev st g f) := ⟨S.out.1, S.out.2.skip (hr2 hlt)⟩
        clear S hr hr2
        go_wp2
        go_roundg (n - b)
        case measure => omega
        case rel => exact ⟨b + 1, _, by go_num, by omega, by omega, NX⟩
      · have hne : ((b : Int) == (k : Int)) = false := by simp; omega
        have hne' : ¬ (b : Int) = (k : Int) := by omega
        have HR := hide hr
        clear hr hr2
        go_wp2_with fail
        refine KD.out.mono ?_
        rintro e w' ⟨rfl, rfl⟩
        go_wp2_with fail
        refine KB.out.mono ?_
        rintro e w' ⟨⟨x, rfl, hx, hx0⟩, rfl⟩
        have HX := hide (And.intro hx hx0)
        clear hx hx0
        go_wp2_with fail
        refine (KA b hbn).out.mono ?_
        rintro e w' ⟨⟨y, rfl⟩, rfl⟩
        have fin : ∀ v, (v = x ∨ v = dirI lev) → Hid (∀ w', St cb c n wo w' (fun j => if k ≤ j ∧ j < b then v else f j) → St cb c n w w' (fun j => if k ≤ j ∧ j < b then v else f j) ∧ PN n b lev st g (fun j => if k ≤ j ∧ j < b then v else f j)) := fun v hv w' h =>
          ⟨⟨S.out.1.but.trans h.but, h.row⟩, S.out.2.filled HR.out (by
            rcases hv with rfl | rfl
            · exact HX.out.1
            · exact dirI_cases lev) (fun q => by
            rcases hv with rfl | rfl
            · exact HX.out.2 ⟨S.out.2.none q, q.2.1⟩
            · exact q.2.2)⟩
        by_cases hxy : x = y
        · subst hxy
          have F := fin x (Or.inl rfl)
          clear S fin
          go_wp2_with fail
          refine (KF x k b hab hbn).out.mono ?_
          rintro e w' ⟨rfl, h⟩
          have NX := hide (F.out w' h)
          clear h
          go_wp2
          go_roundg (n - k)
          case measure => omega
          case rel => exact ⟨b, _, by go_num, by omega, by omega, NX⟩
        · have hxy2 : (x == y) = false := by simp [hxy]
          have F := fin (dirI lev) (Or.inr rfl)
          clear S fin
          go_wp2_with fail
          refine (KF (dirI lev) k b hab hbn).out.mono ?_
          rintro e w' ⟨rfl, h⟩
          have NX := hide (F.out w' h)
          clear h
          go_wp2
          go_roundg (n - k)
          case measure => omega
          case rel => exact ⟨b, _, by go_num, by omega, by omega, NX⟩
    · have hltz : ¬ (k : Int) < (n : Int) := by omega
      obtain rfl : n = k := by omega
      go_wp2
      go_end0
      exact ⟨rfl, f, S.out.1, S.out.2⟩
end Go.Proofs.Ytdkmjhbkjhikfaa
