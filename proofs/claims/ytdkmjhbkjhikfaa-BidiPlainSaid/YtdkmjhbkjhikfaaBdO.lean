/- What reverseFrom and Order of package bidi do. -/
import Derived.Test.YtdkmjhbkjhikfaaBdRv
import Derived.Test.YtdkmjhbkjhikfaaBdP
import Derived.Test.YtdkmjhbkjhikfaaBdV
namespace Go.Proofs.Ytdkmjhbkjhikfaa
open Go.RowKit Go.Sort
set_option linter.unusedVariables false
set_option linter.unusedSimpArgs false

theorem reverse_all (ob n a m c : Nat) (ad : Option Addr) (X : Nat → Int) (w : World) (hr : IRow w ob n X) (had : 2 ≤ m → ad = some ⟨ob, a, none⟩) (ham : a + m ≤ n) (hn : n ≤ 100000) :
    Calls Try.prog 55 #[.slice ad m c] w fun e w' => e = .returned (.tuple #[]) ∧ But ob w w' ∧ IRow w' ob n (rev a (a + m) X) := by
  by_cases h : 2 ≤ m
  · rw [had h]; exact reverse_any ob n a m c X w hr h ham hn
  · refine (reverse_small ad m c w (by omega)).mono ?_
    rintro e w' ⟨rfl, rfl⟩
    exact ⟨rfl, But.refl _ _, hr.congr fun i _ => (rev_small X (by omega) i).symm⟩

/-- What reverseFrom has done at place k; fr: where the list that it is in begins. -/
def RF (ob n : Nat) (f X : Nat → Int) (L : Int) (w : World) (fr k : Nat) (wr : World) : Prop := But ob w wr ∧ ∃ Y, IRow wr ob n Y ∧ PartO f n L fr X Y ∧ (∀ j, fr ≤ j → j < k → ¬ f j < L) ∧ (fr = 0 ∨ f (fr - 1) < L)

set_option maxRecDepth 100000 in
set_option maxHeartbeats 1000000 in
theorem reverseFrom_any (ob n c : Nat) (p : Option Addr) (L : Int) (f X : Nat → Int) (w : World) (hr : IRow w ob n X) (hl : Reads w p n f) (hne : 0 < n → ∀ b off, p = some ⟨b, off, none⟩ → b ≠ ob) (hn : n ≤ 100000) :
    Calls Try.prog 27 #[.slice (some ⟨ob, 0, none⟩) n n, .slice p n c, .int .i64 L] w fun e w' => e = .returned (.tuple #[]) ∧ But ob w w' ∧ ∃ Y, IRow w' ob n Y ∧ RevStep f n L X Y := by
  have S0 : Hid (RF ob n f X L w 0 0 w) := ⟨But.refl _ _, X, hr, PartO.zero _ _ _ _, fun j _ h => by omega, Or.inl rfl⟩
  have HL := hide hl
  have HNE := hide hne
  clear hr hl hne
  go_enter Try.func27, Try.ntmps27
  go_wp2
  go_loopg [6, 11] (n + 1) (fun gh v6 vk wr => ∃ (k fr : Nat), vk = .int .i64 (k : Int) ∧ v6 = .int .i64 (fr : Int) ∧ fr ≤ k ∧ k ≤ n ∧ n - k < gh ∧ Hid (RF ob n f X L w fr k wr))
  case atStart => exact ⟨0, 0, by go_num, by go_num, by omega, by omega, by omega, S0⟩
  case round =>
    clear S0
    obtain ⟨wo, rfl⟩ : ∃ wo : World, wo = wr := ⟨_, rfl⟩
    obtain ⟨k, fr, rfl, rfl, hfk, hk, hg, S⟩ := hrel
    obtain ⟨B, Y, hY, hP, hall, hfr⟩ := S.out
    by_cases hlt : k < n
    · have hltz : (k : Int) < (n : Int) := by omega
      obtain ⟨b, off, rfl, hc⟩ := HL.out (by omega)
      have ck : wo.cell? ⟨b, off + k, none⟩ = some (.int .i64 (f k)) := (World.cell?_of_block (a := ⟨b, off + k, none⟩) (B.block b (lt_of_cell (hc k hlt)) (HNE.out (by omega) b off rfl))).trans (hc k hlt)
      by_cases hf : f k < L
      · have f0 : (0 : Int) ≤ (fr : Int) := by omega
        have f1 : (fr : Int) ≤ (k : Int) := by omega
        have f2 : (k : Int) ≤ (n : Int) := by omega
        have KR := fun ad cc had => hide (reverse_all ob n fr (k - fr) cc ad Y wo hY had (by omega) hn)
        have NX : Hid (∀ w', But ob wo w' → IRow w' ob n (rev fr (fr + (k - fr)) Y) → RF ob n f X L w (k + 1) (k + 1) w') := fun w' b' r' => by
          refine ⟨B.trans b', _, r', ?_, fun j h1 h2 => by omega, Or.inr hf⟩
          rw [show fr + (k - fr) = k by omega]
          by_cases e : fr < k
          · exact (hP.seg ⟨e, by omega, hall, hfr, Or.inr hf⟩).skip hf
          · obtain rfl : fr = k := by omega
            have : rev fr fr Y = Y := funext fun i => rev_small Y (by omega) i
            rw [this]; exact hP.skip hf
        clear S hY hP hall hfr hc B
        have hfn : ¬ n - fr = 0 := by omega
        go_wp2_with fail
        refine (KR _ _ (fun _ => rfl)).out.mono ?_
        rintro e w1 ⟨rfl, b1, r1⟩
        have NX1 := hide (NX.out w1 b1 r1)
        clear b1 r1 NX KR
        go_wp2
        go_roundg (n - k)
        case measure => omega
        case rel => exact ⟨k + 1, k + 1, by go_num, by go_num, by omega, by omega, by omega, NX1⟩
      · have NX : Hid (RF ob n f X L w fr (k + 1) wo) := ⟨B, Y, hY, hP, fun j h1 h2 => by
          by_cases e : j = k
          · subst e; exact hf
          · exact hall j h1 (by omega), hfr⟩
        clear S hY hP hall hfr hc B
        go_wp2
        go_roundg (n - k)
        case measure => omega
        case rel => exact ⟨k + 1, fr, by go_num, by go_num, by omega, by omega, by omega, NX⟩
    · have hltz : ¬ (k : Int) < (n : Int) := by omega
      obtain rfl : n = k := by omega
      have f0 : (0 : Int) ≤ (fr : Int) := by omega
      have f1 : (fr : Int) ≤ (n : Int) := by omega
      have KR := fun ad cc had => hide (reverse_all ob n fr (n - fr) cc ad Y wo hY had (by omega) hn)
      have FIN : Hid (∀ w', But ob wo w' → IRow w' ob n (rev fr (fr + (n - fr)) Y) → But ob w w' ∧ ∃ Y, IRow w' ob n Y ∧ RevStep f n L X Y) := fun w' b' r' => by
        refine ⟨B.trans b', _, r', ?_⟩
        rw [show fr + (n - fr) = n by omega]
        by_cases e : fr < n
        · exact (hP.seg ⟨e, Nat.le_refl _, hall, hfr, Or.inl rfl⟩).all (Nat.le_refl _)
        · obtain rfl : fr = n := by omega
          have : rev fr fr Y = Y := funext fun i => rev_small Y (by omega) i
          rw [this]; exact hP.all (Nat.le_refl _)
      have hX := hY
      clear S hY hP hall hfr B
      by_cases hfn : n - fr = 0
      · obtain rfl : fr = n := by omega
        have FX0 := hide (FIN.out wo (But.refl _ _) (hX.congr fun i _ => (rev_small Y (by omega) i).symm))
        clear hfn FIN KR f0 f1 hX
        go_wp2_with fail
        refine (reverse_small _ 0 _ wo (by omega)).mono ?_
        rintro e w1 ⟨rfl, rfl⟩
        go_wp2
        go_end0
        exact ⟨rfl, FX0.out⟩
      · go_wp2_with fail
        refine (KR _ _ (fun _ => rfl)).out.mono ?_
        rintro e w1 ⟨rfl, b1, r1⟩
        have FX := hide (FIN.out w1 b1 r1)
        clear b1 r1 FIN KR
        go_wp2
        go_end0
        exact ⟨rfl, FX.out⟩

/-- What Order has filled in up to k: the places, and the highest level. -/
def OF (ob n : Nat) (f : Nat → Int) (w : World) (k : Nat) (hi : Int) (wr : World) : Prop :=
  Grew w wr ∧ IRow wr ob n (upto k idF (fun _ => 0)) ∧ (∀ j, j < k → 0 ≤ f j ∧ f j ≤ hi) ∧ 0 ≤ hi ∧ hi ≤ 127
/-- All levels are from 0 to 127. -/
def InR (f : Nat → Int) (n : Nat) : Prop := ∀ j, j < n → 0 ≤ f j ∧ f j ≤ 127
/-- Levels above all others change nothing. -/
theorem OrdR.high {f : Nat → Int} {n : Nat} {o : Nat → Int} (ho : ∀ i, i < n → o i = (i : Int)) (h : Nat) (hf : ∀ j, j < n → f j ≤ (h : Int)) : ∀ d, d + h ≤ 127 → OrdR f n (128 - d) o := fun d => by
  induction d with
  | zero => intro _; exact .start o ho
  | succ d ih =>
    intro hd
    refine .step _ o o ?_ fun i hi => ⟨fun _ => rfl, fun a b hs h1 h2 => absurd (hf i hi) (by have := hs.2.2.1 i h1 h2; omega)⟩
    have := ih (by omega)
    rwa [show 128 - (d + 1) + 1 = 128 - d by omega]
def OL (ob n : Nat) (f : Nat → Int) (w : World) (L : Nat) (wr : World) : Prop := Grew w wr ∧ w.heap.size ≤ ob ∧ ∃ o, IRow wr ob n o ∧ OrdR f n (L + 1) o

set_option maxHeartbeats 4000000 in
theorem Order_any (n c : Nat) (p : Option Addr) (f : Nat → Int) (w : World) (hl : Reads w p n f) (hn : n ≤ 2000) (hf : InR f n) :
    Calls Try.prog 10 #[.slice p n c] w fun e w' => ∃ ob, e = .returned (.slice (some ⟨ob, 0, none⟩) n n) ∧ Grew w w' ∧ w.heap.size ≤ ob ∧ ∃ o, IRow w' ob n o ∧ OrdR f n 1 o := by
  have hmk := make_ints n (by omega) w
  have S0 : Hid (OF w.heap.size n f w 0 0 (w.alloc (.cells (ints n fun _ => 0) 3))) := ⟨(Grew.refl w).alloc _, (IRow.new w n _).congr fun j _ => (if_neg (by omega)).symm, fun j h => by omega, by omega, by omega⟩
  have HL := hide hl
  have HF := hide hf
  have hnz : ¬ (2000 : Int) < (n : Int) := by omega
  clear hl hf
  go_enter Try.func10, Try.ntmps10
  go_wp2
  clear hmk
  generalize w.alloc (.cells (ints n fun _ => 0) 3) = w1 at *
  go_loopg [4, 16] (n + 1) (fun gh v4 vk wr => ∃ (k : Nat) (hi : Int), vk = .int .i64 (k : Int) ∧ v4 = .int .i64 hi ∧ k ≤ n ∧ n - k < gh ∧ Hid (OF w.heap.size n f w k hi wr))
  case atStart => exact ⟨0, 0, by go_num, by go_num, by omega, by omega, S0⟩
  case round =>
    clear S0
    obtain ⟨wo, rfl⟩ : ∃ wo : World, wo = wr := ⟨_, rfl⟩
    obtain ⟨k, hi, rfl, rfl, hk, hg, S⟩ := hrel
    by_cases hlt : k < n
    · have hltz : (k : Int) < (n : Int) := by omega
      obtain ⟨b, off, rfl, hc⟩ := HL.out (by omega)
      have ck : wo.cell? ⟨b, off + k, none⟩ = some (.int .i64 (f k)) := (S.out.1.1.cell (p := ⟨b, off + k, none⟩) (lt_of_cell (hc k hlt))).trans (hc k hlt)
      have f1 := (HF.out k hlt).1
      have f2 := (HF.out k hlt).2
      have oc := S.out.2.1.cell hlt
      have of := S.out.2.1.frozen k
      have f1' : ¬ f k < 0 := by omega
      have f2' : ¬ (127 : Int) < f k := by omega
      have NX : Hid (∀ m : Int, (m = max hi (f k)) → OF w.heap.size n f w (k + 1) m (wo.setCell ⟨w.heap.size, k, none⟩ (.int .i64 (k : Int)))) := fun m hm => by
        obtain ⟨s1, s2, s3, s4, s5⟩ := S.out
        refine ⟨s1.setCell (Nat.le_refl _) _, s2.upto_step, fun j hj => ?_, by omega, by omega⟩
        by_cases e : j = k
        · subst e; omega
        · have := s3 j (by omega); omega
      clear S hc
      go_wp2
      all_goals
        go_roundg (n - k)
        case measure => omega
        case rel => exact ⟨k + 1, _, by go_num, rfl, by omega, by omega, hide (NX.out _ (by omega))⟩
    · have hltz : ¬ (k : Int) < (n : Int) := by omega
      obtain rfl : n = k := by omega
      obtain ⟨H, hH⟩ : ∃ H : Nat, (H : Int) = hi := ⟨hi.toNat, by have := S.out.2.2.2.1; omega⟩
      have S1 : Hid (OL w.heap.size n f w H wo) := by
        obtain ⟨s1, s2, s3, s4, s5⟩ := S.out
        refine ⟨s1, Nat.le_refl _, _, s2, ?_⟩
        have := OrdR.high (f := f) (n := n) (o := upto n idF (fun _ => 0)) (fun i hi => if_pos hi) H (fun j hj => by have := (s3 j hj).2; omega) (127 - H) (by omega)
        rwa [show 128 - (127 - H) = H + 1 by omega] at this
      have hH7 : H ≤ 127 := by have := S.out.2.2.2.2; omega
      subst hH
      clear S
      go_wp2
      go_loopg [7] 128 (fun gh v7 wr => ∃ L : Nat, v7 = .int .i64 (L : Int) ∧ L ≤ 127 ∧ L < gh ∧ Hid (OL w.heap.size n f w L wr))
      case atStart => exact ⟨H, by go_num, by omega, by omega, S1⟩
      case round =>
        clear S1 hH7
        obtain ⟨wq, rfl⟩ : ∃ wq : World, wq = wr := ⟨_, rfl⟩
        obtain ⟨L, rfl, hL, hgL, S⟩ := hrel
        by_cases h0 : 0 < L
        · have hz : (0 : Int) < (L : Int) := by omega
          obtain ⟨s1, s2, o, s3, s4⟩ := S.out
          have KR := hide (reverseFrom_any w.heap.size n c p (L : Int) f o wq s3 (HL.out.grew s1) (fun hn0 b off e hb => by
            obtain ⟨b', off', e', hc⟩ := HL.out hn0
            rw [e] at e'
            injection e' with e'
            injection e' with e'
            have := lt_of_cell (hc 0 hn0)
            omega) (by omega))
          have NX : Hid (∀ w', But w.heap.size wq w' → ∀ Y, IRow w' w.heap.size n Y → RevStep f n (L : Int) o Y → OL w.heap.size n f w (L - 1) w') := fun w' b Y r q =>
            ⟨b.grew s1 (Nat.le_refl _), Nat.le_refl _, Y, r, by rw [show L - 1 + 1 = L by omega]; exact .step L o Y s4 q⟩
          clear S s1 s2 s3 s4
          go_wp2_with fail
          refine KR.out.mono ?_
          rintro e w3 ⟨rfl, b3, Y, r3, q3⟩
          have NX1 := hide (NX.out w3 b3 Y r3 q3)
          clear b3 r3 q3 NX KR
          go_wp2
          go_roundg L
          case measure => omega
          case rel => exact ⟨L - 1, by go_num, by omega, by omega, NX1⟩
        · have hz : ¬ (0 : Int) < (L : Int) := by omega
          obtain rfl : L = 0 := by omega
          obtain ⟨s1, s2, o, s3, s4⟩ := S.out
          have FX := hide (And.intro s1 (And.intro s3 s4))
          clear S s1 s2 s3 s4
          go_wp2
          go_ret
          exact ⟨_, rfl, FX.out.1, Nat.le_refl _, o, FX.out.2.1, FX.out.2.2⟩
end Go.Proofs.Ytdkmjhbkjhikfaa
