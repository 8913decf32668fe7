/- The library's stable sort of a row of at most 2^59 cells: it leaves a permutation of the row that is sorted in the finer order; the row is memory of the call's own, the comparison is a function that only reads. -/
import Derived.Test.YtjaapdkhjgolfaaFxSymB
import Derived.Test.YtjaapdkhjgolfaaFxBlocks
namespace Go.Proofs.Ytjaapdkhjgolfaa
open Go.Shelf Go.RowKit Go.Lib Go.Sort Go.Proofs
variable {α : Type} [Inhabited α]

theorem sym_any (enc : α → Value) (cf : α → α → Int) (ls : α → α → Bool) (FN : Finer (ltOf cf) ls) (g : Nat) (cb : Array Value) (blk off cap : Nat) (d0 : Array α) (w0 : World) (T : Sorts enc cf g cb blk off d0 w0) :
    ∀ (N a m b : Nat) (d : Array α) (w : World), b - a ≤ N → a < m → m < b → b ≤ d.size → d.size = d0.size → SW enc w0 blk off d w → SortedIn ls a m d → SortedIn ls m b d → Cross (ltOf cf) ls a m b d →
      Calls Try.prog 65 #[.slice (some ⟨blk, off, none⟩) d0.size cap, .int .i64 a, .int .i64 m, .int .i64 b, .func (.func g) #[] cb] w fun e w' => e = .returned (.tuple #[]) ∧ Merges enc ls w0 blk off a b d w' := by
  intro N
  induction N with
  | zero => intro a m b d w h0 h1 h2; omega
  | succ N ih =>
    intro a m b d w h0 h1 h2 hb hs S s1 s2 hC
    rw [← hs]
    by_cases e1 : m = a + 1
    · refine (symL enc cf g cb blk off cap a m b d0 d w0 w T hs S e1 h2 hb).mono ?_
      rintro e w' ⟨he, i, k1, k2, k3, k4, k5⟩
      subst e1
      have := mergeL FN hb k1 k2 s2 hC k3 k4
      exact ⟨he, _, this.1, this.2, k5⟩
    · by_cases e2 : b = m + 1
      · refine (symR enc cf g cb blk off cap a m b d0 d w0 w T hs S e2 (by omega) hb).mono ?_
        rintro e w' ⟨he, i, k1, k2, k3, k4, k5⟩
        subst e2
        have := mergeR FN (by omega) k1 k2 s1 hC k3 k4
        exact ⟨he, _, this.1, this.2, k5⟩
      · have ih' : ∀ (a' m' b' : Nat) (d' : Array α) (w' : World), b' - a' < b - a → a' < m' → m' < b' → b' ≤ d'.size → d'.size = d.size → SW enc w0 blk off d' w' → SortedIn ls a' m' d' → SortedIn ls m' b' d' → Cross (ltOf cf) ls a' m' b' d' →
            Calls Try.prog 65 #[.slice (some ⟨blk, off, none⟩) d.size cap, .int .i64 a', .int .i64 m', .int .i64 b', .func (.func g) #[] cb] w' fun e w'' => e = .returned (.tuple #[]) ∧ Merges enc ls w0 blk off a' b' d' w'' :=
          fun a' m' b' d' w' g0 g1 g2 g3 g4 g5 g6 g7 g8 => by
            have := ih a' m' b' d' w' (by omega) g1 g2 g3 (g4.trans hs) g5 g6 g7 g8
            rwa [← hs] at this
        rcases Nat.lt_or_ge ((a + b) / 2) m with hm | hm
        · exact symA enc cf ls FN g cb blk off cap a m b d0 d w0 w T hs S (by omega) (by omega) hb s1 s2 hC hm ih'
        · exact symB enc cf ls FN g cb blk off cap a m b d0 d w0 w T hs S (by omega) (by omega) hb s1 s2 hC hm ih'

/-- Insertion sort of a range, by the shelf's contract. -/
theorem ins_any (enc : α → Value) (cf : α → α → Int) (ls : α → α → Bool) (FN : Finer (ltOf cf) ls) (g : Nat) (cb : Array Value) (blk off cap a b : Nat) (d0 d : Array α) (w0 w : World) (T : Sorts enc cf g cb blk off d0 w0)
    (hs : d.size = d0.size) (S : SW enc w0 blk off d w) (hab : a ≤ b) (hb : b ≤ d.size) (hI : Inv (ltOf cf) ls a b d) :
    Calls Try.prog 64 #[.slice (some ⟨blk, off, none⟩) d0.size cap, .int .i64 a, .int .i64 b, .func (.func g) #[] cb] w fun e w' => e = .returned (.tuple #[]) ∧ Merges enc ls w0 blk off a b d w' := by
  have h := Any.insertionSortCmpFunc_s insLaid enc cf g cb blk off cap a b d0 d w0 w T.eg T.hcmp T.R hs.symm S hab hb (by have := T.hsz; omega)
  rw [hs] at h
  refine h.mono ?_
  rintro e w' ⟨he, hS⟩
  have := ins_sorts FN hab hb hI
  exact ⟨he, _, this.1, this.2, hS⟩

set_option maxHeartbeats 16000000 in
set_option maxRecDepth 1000000 in
theorem stable_any (enc : α → Value) (cf : α → α → Int) (ls : α → α → Bool) (FN : Finer (ltOf cf) ls) (g : Nat) (cb : Array Value) (blk off cap n : Nat) (d0 : Array α) (w0 : World) (T : Sorts enc cf g cb blk off d0 w0)
    (hn : n = d0.size) (hI : Inv (ltOf cf) ls 0 n d0) :
    Calls Try.prog 62 #[.slice (some ⟨blk, off, none⟩) n cap, .int .i64 n, .func (.func g) #[] cb] w0 fun e w' => e = .returned (.tuple #[]) ∧ Merges enc ls w0 blk off 0 n d0 w' := by
  have hsz : n < 1152921504606846976 := by rw [hn]; exact T.hsz
  have INS : Aside (∀ (a b : Nat) (d : Array α) (w : World), Keeps (ltOf cf) ls n d0 d → SW enc w0 blk off d w → a ≤ b → b ≤ n →
      Calls Try.prog 64 #[.slice (some ⟨blk, off, none⟩) n cap, .int .i64 a, .int .i64 b, .func (.func g) #[] cb] w fun e w' => e = .returned (.tuple #[]) ∧ ∃ e', (PermI a b d e' ∧ SortedIn ls a b e') ∧ Keeps (ltOf cf) ls n d0 e' ∧ SW enc w0 blk off e' w') := fun a b d w K S h1 h2 => by
    have hs := K.perm.size
    have := ins_any enc cf ls FN g cb blk off cap a b d0 d w0 w T hs S h1 (by omega) (fun p q _ g2 g3 => K.inv p q (Nat.zero_le _) g2 (by omega))
    rw [← hn] at this
    exact this.mono fun e w' ⟨he, e', p1, p2, p3⟩ => ⟨he, e', ⟨p1, p2⟩, K.step (by omega) h2 p1 p2, p3⟩
  have SYM : Aside (∀ (a m b : Nat) (d : Array α) (w : World), Keeps (ltOf cf) ls n d0 d → SW enc w0 blk off d w → a < m → m < b → b ≤ n → SortedIn ls a m d → SortedIn ls m b d →
      Calls Try.prog 65 #[.slice (some ⟨blk, off, none⟩) n cap, .int .i64 a, .int .i64 m, .int .i64 b, .func (.func g) #[] cb] w fun e w' => e = .returned (.tuple #[]) ∧ ∃ e', (PermI a b d e' ∧ SortedIn ls a b e') ∧ Keeps (ltOf cf) ls n d0 e' ∧ SW enc w0 blk off e' w') := fun a m b d w K S h1 h2 h3 h4 h5 => by
    have hs := K.perm.size
    have := sym_any enc cf ls FN g cb blk off cap d0 w0 T (b - a) a m b d w (Nat.le_refl _) h1 h2 (by omega) hs S h4 h5 (K.inv.cross h3)
    rw [← hn] at this
    exact this.mono fun e w' ⟨he, e', p1, p2, p3⟩ => ⟨he, e', ⟨p1, p2⟩, K.step (by omega) h3 p1 p2, p3⟩
  have S0 : Aside (SW enc w0 blk off d0 w0) := SW.start T.R.hH
  have K0 : Hid (Keeps (ltOf cf) ls n d0 d0) := ⟨PermI.refl _ _ _, hI⟩
  clear T hn hI
  go_enter Try.func62, Try.ntmps62
  go_wp2
  go_loopg [7, 8] (n + 20) (fun g1 va vb wr => ∃ (i A B : Nat) (d : Array α), va = .int .i64 A ∧ vb = .int .i64 B ∧ B ≤ A + 20 ∧ A + 20 ≤ B ∧ A ≤ n ∧ n - A < g1 ∧ Hid (First ls i A d) ∧ Hid (Keeps (ltOf cf) ls n d0 d) ∧ Aside (SW enc w0 blk off d wr))
  case atStart => exact ⟨0, 0, 20, d0, by go_num, by go_num, by omega, by omega, by omega, by omega, First.start d0, K0, S0⟩
  case round =>
    clear S0 K0
    obtain ⟨i, A, B, d, rfl, rfl, hB1, hB2, hA, hg, FI, KP, S1⟩ := hrel
    by_cases hlt : B ≤ n
    · have hltz : (B : Int) ≤ (n : Int) := by omega
      have C := INS.out A B d wr KP.out S1.out (by omega) hlt
      go_wp2_with fail
      refine C.mono ?_
      rintro e w1 ⟨rfl, d', PS, KP', SE⟩
      have S2 : Aside (SW enc w0 blk off d' w1) := SE
      have FI' : Hid (First ls (i + 1) B d') := by
        obtain rfl : B = A + 20 := by omega
        exact FI.out.step PS.1 PS.2
      have KP2 := hide' KP'
      clear C S1 SE PS KP' FI KP
      go_wp2
      go_roundg (n - A)
      case measure => omega
      case rel => exact ⟨i + 1, B, B + 20, d', rfl, by go_num, by omega, by omega, by omega, by omega, FI', KP2, S2⟩
    · have hltz : ¬ (B : Int) ≤ (n : Int) := by omega
      have C := INS.out A n d wr KP.out S1.out hA (Nat.le_refl _)
      go_wp2_with fail
      refine C.mono ?_
      rintro e w1 ⟨rfl, d', PS, KP', SE⟩
      have S2 : Aside (SW enc w0 blk off d' w1) := SE
      have FI' : Hid (Blocks ls n 20 d') := First.done FI.out (by omega) PS.1 PS.2
      have KP2 := hide' KP'
      clear C S1 SE PS KP' FI KP
      go_wp2
      go_loopg [6] (n + 1) (fun g2 vs wr2 => ∃ (s : Nat) (d : Array α), vs = .int .i64 s ∧ 0 < s ∧ s ≤ n + n + 20 ∧ n - s < g2 ∧ Hid (Blocks ls n s d) ∧ Hid (Keeps (ltOf cf) ls n d0 d) ∧ Aside (SW enc w0 blk off d wr2))
      case atStart => exact ⟨20, d', by go_num, by omega, by omega, by omega, FI', KP2, S2⟩
      case round =>
        clear S2 FI' KP2
        obtain ⟨s, d, rfl, hs0, hs1, hg2, BL, KP, S1⟩ := hrel
        by_cases hsn : s < n
        · have hsz2 : (s : Int) < (n : Int) := by omega
          obtain ⟨t, ht⟩ : ∃ q, q = 2 * s := ⟨_, rfl⟩
          have ht1 : t ≤ 2 * s := by omega
          have ht2 : 2 * s ≤ t := by omega
          have HF0 : Hid (Half ls n s 0 0 d) := Half.start BL.out
          clear BL
          go_wp2
          go_loopg [7, 8] (n + 1) (fun g3 va vb wr3 => ∃ (i A B : Nat) (d : Array α), va = .int .i64 A ∧ vb = .int .i64 B ∧ B ≤ A + 2 * s ∧ A + 2 * s ≤ B ∧ A ≤ n ∧ n - A < g3 ∧ Hid (Half ls n s i A d) ∧ Hid (Keeps (ltOf cf) ls n d0 d) ∧ Aside (SW enc w0 blk off d wr3))
          case atStart => exact ⟨0, 0, t, d, by go_num, by first | rfl | (congr 1; omega), by omega, by omega, by omega, by omega, HF0, KP, S1⟩
          case round =>
            clear HF0 KP S1
            obtain ⟨i, A, B, d, rfl, rfl, hB1, hB2, hA, hg3, HF, KP, S1⟩ := hrel
            by_cases hlt : B ≤ n
            · have hltz : (B : Int) ≤ (n : Int) := by omega
              have hB : B = A + 2 * s := by omega
              have C := SYM.out A (A + s) B d _ KP.out S1.out (by omega) (by omega) hlt (HF.out.left (by omega)) (by have := HF.out.right; rwa [← hB, Nat.min_eq_right hlt] at this)
              clear hB
              rw [show ((A + s : Nat) : Int) = (A : Int) + (s : Int) by omega] at C
              go_wp2_with fail
              refine C.mono ?_
              rintro e w2 ⟨rfl, d', PS, KP', SE⟩
              have S2 : Aside (SW enc w0 blk off d' w2) := SE
              have HF' : Hid (Half ls n s (i + 1) B d') := by
                obtain rfl : B = A + 2 * s := by omega
                exact HF.out.step PS.1 PS.2
              have KP2 := hide' KP'
              clear C S1 SE PS KP' HF KP
              go_wp2
              go_roundg (n - A)
              case measure => omega
              case rel => exact ⟨i + 1, B, B + 2 * s, d', rfl, by first | rfl | (congr 1; omega), by omega, by omega, by omega, by omega, HF', KP2, S2⟩
            · have hltz : ¬ (B : Int) ≤ (n : Int) := by omega
              by_cases hm : A + s < n
              · have hmz : (A : Int) + (s : Int) < (n : Int) := by omega
                have C := SYM.out A (A + s) n d _ KP.out S1.out (by omega) hm (Nat.le_refl _) (HF.out.left (by omega)) (by have := HF.out.right; rwa [Nat.min_eq_left (by omega)] at this)
                rw [show ((A + s : Nat) : Int) = (A : Int) + (s : Int) by omega] at C
                go_wp2_with fail
                refine C.mono ?_
                rintro e w2 ⟨rfl, d', PS, KP', SE⟩
                have S2 : Aside (SW enc w0 blk off d' w2) := SE
                have BL' : Hid (Blocks ls n (2 * s) d') := HF.out.done (by omega) PS.1 PS.2
                have KP2 := hide' KP'
                clear C S1 SE PS KP' HF KP
                go_wp2
                go_roundg (n - s)
                case measure => omega
                case rel => exact ⟨2 * s, d', by first | rfl | (congr 1; omega), by omega, by omega, by omega, BL', KP2, S2⟩
              · have hmz : ¬ (A : Int) + (s : Int) < (n : Int) := by omega
                have BL' : Hid (Blocks ls n (2 * s) d) := HF.out.done (by omega) (PermI.refl _ _ _) (HF.out.idle (by omega))
                clear HF
                go_wp2
                go_roundg (n - s)
                case measure => omega
                case rel => exact ⟨2 * s, d, by first | rfl | (congr 1; omega), by omega, by omega, by omega, BL', KP, S1⟩
        · have hsz2 : ¬ (s : Int) < (n : Int) := by omega
          have P := hide' (show PermI 0 n d0 d ∧ SortedIn ls 0 n d from ⟨KP.out.perm, BL.out.whole (by omega)⟩)
          clear KP BL
          go_wp2
          go_end0
          exact ⟨rfl, d, P.out.1, P.out.2, S1.out⟩

theorem sortStable_any (enc : α → Value) (cf : α → α → Int) (ls : α → α → Bool) (FN : Finer (ltOf cf) ls) (g : Nat) (cb : Array Value) (blk off cap n : Nat) (d0 : Array α) (w0 : World) (T : Sorts enc cf g cb blk off d0 w0)
    (hn : n = d0.size) (hI : Inv (ltOf cf) ls 0 n d0) :
    Calls Try.prog 57 #[.slice (some ⟨blk, off, none⟩) n cap, .func (.func g) #[] cb] w0 fun e w' => e = .returned (.tuple #[]) ∧ Merges enc ls w0 blk off 0 n d0 w' := by
  have C := stable_any enc cf ls FN g cb blk off cap n d0 w0 T hn hI
  have hsz : n < 1152921504606846976 := by rw [hn]; exact T.hsz
  clear T hn hI
  go_enter Try.func57, Try.ntmps57
  go_wp2_with fail
  refine C.mono ?_
  rintro e w' ⟨rfl, hM⟩
  have HM : Aside _ := hM
  clear hM
  go_wp2
  go_end0
  exact ⟨rfl, HM.out⟩
end Go.Proofs.Ytjaapdkhjgolfaa
