/- What Baseline of the reference of package box returns; the two slices read as integers. -/
import Derived.Test.YtjaapdkhjgolfaaBoB
namespace Go.Proofs.Ytjaapdkhjgolfaa
open Go.RowKit Go.Sort
set_option linter.unusedVariables false
set_option linter.unusedSimpArgs false

/-- The greatest of the first numbers, 0 at least. -/
def maxF (f : Nat → Int) : Nat → Int
  | 0 => 0
  | n + 1 => max (maxF f n) (f n)
def basOk (n m : Nat) (f g : Nat → Int) : Prop := n = m ∧ n ≤ 100 ∧ ∀ i, i < n → (0 ≤ f i ∧ f i ≤ 1048576) ∧ (0 ≤ g i ∧ g i ≤ 1048576)
theorem maxF_bd {f : Nat → Int} {B : Int} (hB : 0 ≤ B) : ∀ {n : Nat}, (∀ i, i < n → f i ≤ B) → 0 ≤ maxF f n ∧ maxF f n ≤ B
  | 0, _ => ⟨Int.le_refl _, hB⟩
  | n + 1, h => by
    have a := maxF_bd hB (f := f) (n := n) fun i hi => h i (by omega)
    have b := h n (by omega)
    simp only [maxF]
    omega
theorem maxF_ge {f : Nat → Int} : ∀ {n i : Nat}, i < n → f i ≤ maxF f n
  | n + 1, i, hi => by
    simp only [maxF]
    rcases Nat.lt_or_ge i n with h | h
    · have := maxF_ge (f := f) h; omega
    · rw [show i = n by omega]; omega
theorem reads_at {w w' : World} {p : Option Addr} {n : Nat} {f : Nat → Int} (h : Reads w p n f) (hB : Below w.heap.size w w') {k : Nat} (hk : k < n) : ∃ b off, p = some ⟨b, off, none⟩ ∧ b < w.heap.size ∧ w'.cell? ⟨b, off + k, none⟩ = some (.int .i64 (f k)) := by
  obtain ⟨b, off, hp, hc⟩ := h (by omega)
  have hb := lt_of_cell (hc k hk)
  exact ⟨b, off, hp, hb, (hB.cell (p := ⟨b, off + k, none⟩) hb).trans (hc k hk)⟩

set_option maxHeartbeats 8000000 in
theorem rBas_err (p q : Option Addr) (n m c d : Nat) (f g : Nat → Int) (w : World) (hf : Reads w p n f) (hg : Reads w q m g) (hn : n ≤ 100000) (hm : m ≤ 100000) (h : ¬ basOk n m f g) :
    Calls Try.prog 25 #[.slice p n c, .slice q m d] w fun e w' => e = .returned (.tuple #[.slice none 0 0, .int .i64 0]) ∧ w = w' := by
  by_cases h1 : n = m
  · subst h1
    by_cases h2 : n ≤ 100
    · have H1 := hide hf
      have H2 := hide hg
      have HN : Hid (¬ ∀ i, i < n → (0 ≤ f i ∧ f i ≤ 1048576) ∧ (0 ≤ g i ∧ g i ≤ 1048576)) := fun ha => h ⟨rfl, h2, ha⟩
      have h2z : ¬ (100 : Int) < (n : Int) := by omega
      clear hf hg h
      go_enter Try.func25, Try.ntmps25
      go_wp2_with fail
      go_loopg [6, 7] (n + 1) (fun g1 vt vk wr => ∃ (k : Nat) (tp : Int), vt = .int .i64 tp ∧ vk = .int .i64 (k : Int) ∧ k ≤ n ∧ n - k < g1 ∧ (0 ≤ tp ∧ tp ≤ 1048576) ∧ Hid (tp = maxF g k) ∧ Hid (∀ i, i < k → (0 ≤ f i ∧ f i ≤ 1048576) ∧ (0 ≤ g i ∧ g i ≤ 1048576)) ∧ w = wr)
      case atStart => exact ⟨0, 0, rfl, by go_num, by omega, by omega, by omega, rfl, fun i hi => absurd hi (Nat.not_lt_zero _), rfl⟩
      case round =>
        obtain ⟨wo, rfl⟩ : ∃ wo : World, wo = wr := ⟨_, rfl⟩
        obtain ⟨k, tp, rfl, rfl, hk, hg, ⟨a1, a2⟩, E1, OK, rfl⟩ := hrel
        by_cases hlt : k < n
        · have hltz : (k : Int) < (n : Int) := by omega
          obtain ⟨b, off, rfl, hb, cf⟩ := reads_at H1.out (Below.refl _ _) hlt
          obtain ⟨b', off', rfl, hb', cg⟩ := reads_at H2.out (Below.refl _ _) hlt
          have L1 := fun W => hide (rlength_any (f k) W)
          have L2 := fun W => hide (rlength_any (g k) W)
          by_cases o1 : 0 ≤ f k ∧ f k ≤ 1048576
          · have e1 : lenB (f k) = true := decide_eq_true o1
            rw [e1] at L1
            by_cases o2 : 0 ≤ g k ∧ g k ≤ 1048576
            · have e2 : lenB (g k) = true := decide_eq_true o2
              rw [e2] at L2
              have E2 : Hid (max tp (g k) = maxF g (k + 1)) := by show _ = _; rw [E1.out]; rfl
              have OK2 : Hid (∀ i, i < k + 1 → (0 ≤ f i ∧ f i ≤ 1048576) ∧ (0 ≤ g i ∧ g i ≤ 1048576)) := fun i hi => by
                rcases Nat.lt_or_ge i k with h | h
                · exact OK.out i h
                · rw [show i = k by omega]; exact ⟨o1, o2⟩
              clear e1 e2 E1 OK
              obtain ⟨o11, o12⟩ := o1
              obtain ⟨o21, o22⟩ := o2
              go_wp2_with fail
              refine (L1 _).out.mono ?_
              rintro e w' ⟨rfl, rfl⟩
              go_wp2_with fail
              refine (L2 _).out.mono ?_
              rintro e w' ⟨rfl, rfl⟩
              go_wp2_with fail
              all_goals
                go_roundg (n - k)
                case measure => omega
                case rel => exact ⟨k + 1, _, rfl, by go_num, by omega, by omega, by omega, by first | exact E2 | (show _ = _; rw [← E2.out]; omega), OK2, rfl⟩
            · have e2 : lenB (g k) = false := decide_eq_false o2
              rw [e2] at L2
              go_wp2_with fail
              refine (L1 _).out.mono ?_
              rintro e w' ⟨rfl, rfl⟩
              go_wp2_with fail
              refine (L2 _).out.mono ?_
              rintro e w' ⟨rfl, rfl⟩
              go_wp2_with fail
              go_ret2
              exact ⟨rfl, rfl⟩
          · have e1 : lenB (f k) = false := decide_eq_false o1
            rw [e1] at L1
            go_wp2_with fail
            refine (L1 _).out.mono ?_
            rintro e w' ⟨rfl, rfl⟩
            go_wp2_with fail
            go_ret2
            exact ⟨rfl, rfl⟩
        · obtain rfl : n = k := by omega
          exact absurd OK.out HN.out
    · have h2z : (100 : Int) < (n : Int) := by omega
      clear h hf hg
      go_enter Try.func25, Try.ntmps25
      go_wp2_with fail
      go_ret2
      exact ⟨rfl, rfl⟩
  · have h1z : ((n : Int) != (m : Int)) = true := by simp; omega
    clear h hf hg
    go_enter Try.func25, Try.ntmps25
    go_wp2_with fail
    go_ret2
    exact ⟨rfl, rfl⟩

set_option maxHeartbeats 8000000 in
theorem rBas_ok (p q : Option Addr) (n m c d : Nat) (f g : Nat → Int) (w : World) (hf : Reads w p n f) (hg : Reads w q m g) (h : basOk n m f g) :
    Calls Try.prog 25 #[.slice p n c, .slice q m d] w fun e w' => e = .returned (.tuple #[.slice (some ⟨w.heap.size, 0, none⟩) n n, .int .i64 (maxF (fun i => maxF g n - g i + f i) n)]) ∧ IRow w' w.heap.size n (fun i => maxF g n - g i) ∧ Grew w w' := by
  obtain ⟨rfl, h2, h3⟩ := h
  have H1 := hide hf
  have H2 := hide hg
  have HOK := hide h3
  have h2z : ¬ (100 : Int) < (n : Int) := by omega
  have hmk : ∀ W : World, (Instr.makeSlice 23 (.int .i64 (n : Int)) (.int .i64 (n : Int))).run Try.prog W = .ok (.slice (some ⟨W.heap.size, 0, none⟩) n n) (W.alloc (.cells (ints n (fun _ => 0)) 3)) := make_ints n (by omega)
  clear hf hg h3
  go_enter Try.func25, Try.ntmps25
  go_wp2_with fail
  go_loopg [6, 7] (n + 1) (fun g1 vt vk wr => ∃ (k : Nat) (tp : Int), vt = .int .i64 tp ∧ vk = .int .i64 (k : Int) ∧ k ≤ n ∧ n - k < g1 ∧ (0 ≤ tp ∧ tp ≤ 1048576) ∧ Hid (tp = maxF g k) ∧ Hid (∀ i, i < k → (0 ≤ f i ∧ f i ≤ 1048576) ∧ (0 ≤ g i ∧ g i ≤ 1048576)) ∧ w = wr)
  case atStart => exact ⟨0, 0, rfl, by go_num, by omega, by omega, by omega, rfl, fun i hi => absurd hi (Nat.not_lt_zero _), rfl⟩
  case round =>
    obtain ⟨wo, rfl⟩ : ∃ wo : World, wo = wr := ⟨_, rfl⟩
    obtain ⟨k, tp, rfl, rfl, hk, hg, ⟨a1, a2⟩, E1, OK, rfl⟩ := hrel
    by_cases hlt : k < n
    · have hltz : (k : Int) < (n : Int) := by omega
      obtain ⟨b, off, rfl, hb, cf⟩ := reads_at H1.out (Below.refl _ _) hlt
      obtain ⟨b', off', rfl, hb', cg⟩ := reads_at H2.out (Below.refl _ _) hlt
      have L1 := fun W => hide (rlength_any (f k) W)
      have L2 := fun W => hide (rlength_any (g k) W)
      by_cases o1 : 0 ≤ f k ∧ f k ≤ 1048576
      · have e1 : lenB (f k) = true := decide_eq_true o1
        rw [e1] at L1
        by_cases o2 : 0 ≤ g k ∧ g k ≤ 1048576
        · have e2 : lenB (g k) = true := decide_eq_true o2
          rw [e2] at L2
          have E2 : Hid (max tp (g k) = maxF g (k + 1)) := by show _ = _; rw [E1.out]; rfl
          have OK2 : Hid (∀ i, i < k + 1 → (0 ≤ f i ∧ f i ≤ 1048576) ∧ (0 ≤ g i ∧ g i ≤ 1048576)) := fun i hi => by
            rcases Nat.lt_or_ge i k with h | h
            · exact OK.out i h
            · rw [show i = k by omega]; exact ⟨o1, o2⟩
          clear e1 e2 E1 OK
          obtain ⟨o11, o12⟩ := o1
          obtain ⟨o21, o22⟩ := o2
          go_wp2_with fail
          refine (L1 _).out.mono ?_
          rintro e w' ⟨rfl, rfl⟩
          go_wp2_with fail
          refine (L2 _).out.mono ?_
          rintro e w' ⟨rfl, rfl⟩
          go_wp2_with fail
          all_goals
            go_roundg (n - k)
            case measure => omega
            case rel => exact ⟨k + 1, _, rfl, by go_num, by omega, by omega, by omega, by first | exact E2 | (show _ = _; rw [← E2.out]; omega), OK2, rfl⟩
        · have e2 : lenB (g k) = false := decide_eq_false o2
          rw [e2] at L2
          exact absurd (HOK.out k hlt).2 o2
      · have e1 : lenB (f k) = false := decide_eq_false o1
        rw [e1] at L1
        exact absurd (HOK.out k hlt).1 o1
    · have hltz : ¬ (k : Int) < (n : Int) := by omega
      obtain rfl : n = k := by omega
      have G9 : Hid (Grew w (w.alloc (.cells (ints n fun _ => 0) 3))) := (Grew.refl _).alloc _
      have R9 : Hid (IRow (w.alloc (.cells (ints n fun _ => 0) 3)) w.heap.size n (fun j => if j < 0 then tp - g j else 0)) := IRow.new w n _
      clear hk hg OK
      go_wp2_with fail
      clear hmk
      generalize hw9 : w.alloc (.cells (ints n fun _ => 0) 3) = w9 at G9 R9 ⊢
      clear hw9
      go_loopg [9, 10] (n + 1) (fun g1 vh vk wr => ∃ (k : Nat) (hh : Int), vh = .int .i64 hh ∧ vk = .int .i64 (k : Int) ∧ k ≤ n ∧ n - k < g1 ∧ (0 ≤ hh ∧ hh ≤ 2097152) ∧ Hid (hh = maxF (fun i => tp - g i + f i) k) ∧ Hid (Grew w wr) ∧ Hid (IRow wr w.heap.size n (fun j => if j < k then tp - g j else 0)))
      case atStart => exact ⟨0, 0, rfl, by go_num, by omega, by omega, by omega, rfl, G9, R9⟩
      case round =>
        clear G9 R9
        obtain ⟨wi, rfl⟩ : ∃ wi : World, wi = wr := ⟨_, rfl⟩
        obtain ⟨k, hh, rfl, rfl, hk, hg, ⟨b1, b2⟩, E2, G, R⟩ := hrel
        by_cases hlt : k < n
        · have hltz : (k : Int) < (n : Int) := by omega
          obtain ⟨b, off, rfl, hb, cf⟩ := reads_at H1.out G.out.1 hlt
          obtain ⟨b', off', rfl, hb', cg⟩ := reads_at H2.out G.out.1 hlt
          have o := HOK.out k hlt
          have fz := R.out.frozen k
          have cz := R.out.cell hlt
          simp only [Nat.lt_irrefl, if_false] at cz
          have G3 : Hid (Grew w (wi.setCell ⟨w.heap.size, k, none⟩ (.int .i64 (tp - g k)))) := G.out.setCell (Nat.le_refl _) _
          have R3 : Hid (IRow (wi.setCell ⟨w.heap.size, k, none⟩ (.int .i64 (tp - g k))) w.heap.size n (fun j => if j < k + 1 then tp - g j else 0)) := (R.out.set_ k _).congr fun j hj => by
            by_cases h1 : j = k
            · subst h1; simp
            · by_cases h2 : j < k
              · simp [h1, h2, show j < k + 1 by omega]
              · simp [h1, h2, show ¬ j < k + 1 by omega]
          have E3 : Hid (max hh (tp - g k + f k) = maxF (fun i => tp - g i + f i) (k + 1)) := by show _ = _; rw [E2.out]; rfl
          have hbl : b ≠ w.heap.size := by omega
          have mg : g k ≤ tp := by rw [E1.out]; exact maxF_ge hlt
          obtain ⟨⟨o1, o2⟩, o3, o4⟩ := o
          have ew : IntKind.i64.wrap (tp - g k + f k) = tp - g k + f k := wr (by omega) (by omega)
          clear G R E2
          go_wp2_with fail
          have c1 := R3.out.cell hlt
          simp only [show k < k + 1 by omega, if_true] at c1
          have c2 : (wi.setCell ⟨w.heap.size, k, none⟩ (.int .i64 (tp - g k))).cell? ⟨b, off + k, none⟩ = some (.int .i64 (f k)) := by simp [go_sem, hbl, cf]
          generalize hw3 : wi.setCell ⟨w.heap.size, k, none⟩ (.int .i64 (tp - g k)) = w3 at G3 R3 c1 c2 ⊢
          clear hw3 cf cg cz fz
          have hg3 : ∀ q os, Grew w3 (grow (w3.drewN q) os) := fun q os => ((Grew.refl w3).drewN q).grow os
          have c1' : ∀ q os, (grow (w3.drewN q) os).cell? ⟨w.heap.size, k, none⟩ = some (.int .i64 (tp - g k)) := fun q os => ((hg3 q os).1.cell (p := ⟨w.heap.size, k, none⟩) R3.out.lt).trans c1
          have c2' : ∀ q os, (grow (w3.drewN q) os).cell? ⟨b, off + k, none⟩ = some (.int .i64 (f k)) := fun q os => ((hg3 q os).1.cell (p := ⟨b, off + k, none⟩) (lt_of_cell c2)).trans c2
          clear hg3
          refine wp_region_calm (by kernel_rfl) (by kernel_rfl) ?_
          iterate 12 ((with_reducible refine lex_calm ?_ ?_ ?_); exact rfl; kernel_rfl; intro K hK; go_simp; first | (refine hK _ ?_; clear hK K) | (apply Exists.intro; refine ⟨fun _ _ => ?_, hK _ ?_⟩; (fail); clear hK K))
          refine lex_nil ?_
          intro wn Gn
          have G4 : Hid (Grew w wn) := G3.out.trans Gn
          have R4 : Hid (IRow wn w.heap.size n (fun j => if j < k + 1 then tp - g j else 0)) := R3.out.below Gn.1 R3.out.lt
          clear Gn G3 R3 c1 c2 c1' c2'
          go_wp2_with fail
          go_roundg (n - k)
          case measure => omega
          case rel => exact ⟨k + 1, _, rfl, by go_num, by omega, by omega, by omega, E3, G4, R4⟩
        · have hltz : ¬ (k : Int) < (n : Int) := by omega
          obtain rfl : n = k := by omega
          go_wp2_with fail
          go_ret2
          have e9 : maxF (fun i => maxF g n - g i + f i) n = hh := by rw [← E1.out]; exact E2.out.symm
          rw [e9]
          exact ⟨rfl, R.out.congr fun j hj => by simp [hj, E1.out], G.out⟩
end Go.Proofs.Ytjaapdkhjgolfaa
