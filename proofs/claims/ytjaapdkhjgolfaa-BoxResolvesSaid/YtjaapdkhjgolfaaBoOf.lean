/- What Offsets of the reference of package box returns where all numbers are in range: the positions of the chapter; no other condition. -/
import Derived.Test.YtjaapdkhjgolfaaBoBa
import Derived.Test.YtjaapdkhjgolfaaBoSp
import Derived.Test.YtjaapdkhjgolfaaBoApp
import Derived.Laws.CopyOwn
import Derived.Deep.Cut
import Derived.Deep.LoopGhost
namespace Go.Proofs.Ytjaapdkhjgolfaa
open Go.RowKit Go.Sort
set_option linter.unusedVariables false
set_option linter.unusedSimpArgs false

def ofOk (av gap ju : Int) (n : Nat) (f : Nat → Int) : Prop := (0 ≤ av ∧ av ≤ 1048576) ∧ (0 ≤ gap ∧ gap ≤ 1048576) ∧ (0 ≤ ju ∧ ju ≤ 3) ∧ ∀ i, i < n → 0 ≤ f i ∧ f i ≤ 1048576
def freO (av gap : Int) (n : Nat) (f : Nat → Int) : Int := spcF av gap n - sumF f n
theorem addr_add0 (g j : Nat) : (Addr.mk g 0 none).add j = ⟨g, j, none⟩ := by
  unfold Addr.add
  by_cases h : j = 0
  · simp [h]
  · simp [h]
def ones : Nat → Int := fun _ => 1
noncomputable def extO (av gap ju : Int) (n : Nat) (f : Nat → Int) (i : Nat) : Int := if ju = 3 ∧ 0 < freO av gap n f ∧ 1 < n ∧ 0 < i then shr (freO av gap n f) ones (n - 1) (i - 1) else 0
def at0 (ju free : Int) : Int := if ju = 1 then free else if ju = 2 then flr free 2 else 0
noncomputable def posO (av gap ju : Int) (n : Nat) (f : Nat → Int) : Nat → Int
  | 0 => at0 ju (freO av gap n f)
  | i + 1 => posO av gap ju n f i + f i + (gap + extO av gap ju n f (i + 1))
noncomputable def ofF (av gap ju : Int) (n : Nat) (f : Nat → Int) (r : Bool) (i : Nat) : Int := if r then av - f i - posO av gap ju n f i else posO av gap ju n f i
theorem ones_good (n : Nat) : Good ones n := fun k _ => ⟨by show (0 : Int) ≤ 1; omega, by show (1 : Int) ≤ _; omega⟩
theorem spc_bd {av gap : Int} {n : Nat} (h1 : 0 ≤ av ∧ av ≤ 1048576) (h2 : 0 ≤ gap ∧ gap ≤ 1048576) : -(n : Int) * 1048576 ≤ spcF av gap n ∧ spcF av gap n ≤ av := by
  unfold spcF
  split
  · omega
  · have a := Int.mul_le_mul h2.2 (show (n : Int) - 1 ≤ n by omega) (by omega) (by omega)
    have b := Int.mul_nonneg h2.1 (show 0 ≤ (n : Int) - 1 by omega)
    omega
theorem fre_bdO {av gap ju : Int} {n : Nat} {f : Nat → Int} (hn : n ≤ 100) (h : ofOk av gap ju n f) {k : Nat} (hk : k ≤ n) : -209715200 ≤ freO av gap k f ∧ freO av gap k f ≤ 1048576 := by
  obtain ⟨h1, h2, _, h4⟩ := h
  have a := spc_bd (n := k) h1 h2
  have b := sumF_bound (f := f) (B := 1048576) k fun i hi => h4 i (by omega)
  unfold freO
  omega
theorem ext_bd {av gap ju : Int} {n : Nat} {f : Nat → Int} (hn : n ≤ 100) (h : ofOk av gap ju n f) {i : Nat} (hi : i < n) : 0 ≤ extO av gap ju n f i ∧ extO av gap ju n f i ≤ 1048576 := by
  unfold extO
  split
  · rename_i hh
    have := shr_bd (T := freO av gap n f) (ones_good (n - 1)) (by omega) (i := i - 1) (by omega)
    have := fre_bdO hn h (Nat.le_refl n)
    omega
  · omega
theorem pos_bd {av gap ju : Int} {n : Nat} {f : Nat → Int} (hn : n ≤ 100) (h : ofOk av gap ju n f) : ∀ i, i < n → -209715200 ≤ posO av gap ju n f i ∧ posO av gap ju n f i ≤ 1048576 + i * 4000000
  | 0, _ => by
    have := fre_bdO hn h (Nat.le_refl n)
    show -209715200 ≤ at0 ju (freO av gap n f) ∧ at0 ju (freO av gap n f) ≤ _
    unfold at0 flr
    rw [Int.fdiv_eq_ediv_of_nonneg _ (by omega)]
    split
    · omega
    · split <;> omega
  | i + 1, hi => by
    have ih := pos_bd hn h i (by omega)
    have e := ext_bd hn h hi
    have h2 := h.2.1
    have h4 := h.2.2.2 i (by omega)
    show -209715200 ≤ posO av gap ju n f i + f i + (gap + extO av gap ju n f (i + 1)) ∧ posO av gap ju n f i + f i + (gap + extO av gap ju n f (i + 1)) ≤ _
    omega
/-- What 'at' holds at the head of round i. -/
noncomputable def atO (av gap ju : Int) (n : Nat) (f : Nat → Int) : Nat → Int
  | 0 => at0 ju (freO av gap n f)
  | i + 1 => posO av gap ju n f i + f i
theorem pos_at (av gap ju : Int) (n : Nat) (f : Nat → Int) (i : Nat) : posO av gap ju n f i = if i = 0 then atO av gap ju n f i else atO av gap ju n f i + (gap + extO av gap ju n f i) := by
  cases i with
  | zero => rfl
  | succ i => rfl
theorem at_bd {av gap ju : Int} {n : Nat} {f : Nat → Int} (hn : n ≤ 100) (h : ofOk av gap ju n f) : ∀ i, i ≤ n → -209715200 ≤ atO av gap ju n f i ∧ atO av gap ju n f i ≤ 8000000 + i * 4000000
  | 0, _ => by
    have := fre_bdO hn h (Nat.le_refl n)
    show -209715200 ≤ at0 ju (freO av gap n f) ∧ at0 ju (freO av gap n f) ≤ _
    unfold at0 flr
    rw [Int.fdiv_eq_ediv_of_nonneg _ (by omega)]
    split
    · omega
    · split <;> omega
  | i + 1, hi => by
    have ih := pos_bd hn h i (by omega)
    have h4 := h.2.2.2 i (by omega)
    show -209715200 ≤ posO av gap ju n f i + f i ∧ posO av gap ju n f i + f i ≤ _
    omega
set_option maxHeartbeats 40000000 in
set_option maxRecDepth 100000 in
theorem rOffsets_ok (av gap ju : Int) (p : Option Addr) (n c : Nat) (f : Nat → Int) (r : Bool) (w : World) (hf : Reads w p n f) (hn : n ≤ 100) (ho : ofOk av gap ju n f) :
    Calls Try.prog 21 #[.int .i64 av, .int .i64 gap, .int .i64 ju, .slice p n c, .bool r] w fun e w' => ∃ b, e = .returned (.slice (some ⟨b, 0, none⟩) n n) ∧ w.heap.size ≤ b ∧ IRow w' b n (ofF av gap ju n f r) ∧ Below w.heap.size w w' := by
  have HF := hide hf
  have HO := hide ho
  have HAV := hide ho.1
  have HGA := hide ho.2.1
  have L1 := fun W => hide (rlength_any av W)
  have L2 := fun W => hide (rlength_any gap W)
  have e1 : lenB av = true := decide_eq_true ho.1
  have e2 : lenB gap = true := decide_eq_true ho.2.1
  rw [e1] at L1
  rw [e2] at L2
  have hz : ¬ (100 : Int) < (n : Int) := by omega
  obtain ⟨j1, j2⟩ := ho.2.2.1
  have j3 : ¬ ju < 0 := by omega
  have j4 : ¬ 3 < ju := by omega
  clear hf ho e1 e2
  go_enter Try.func21, Try.ntmps21
  go_wp2_with fail
  refine (L1 _).out.mono ?_
  rintro e w' ⟨rfl, rfl⟩
  go_wp2_with fail
  refine (L2 _).out.mono ?_
  rintro e w' ⟨rfl, rfl⟩
  go_wp2_with fail
  clear L1 L2
  go_loopg [11, 12] (n + 1) (fun g1 vf vk wr => ∃ (k : Nat) (fr : Int), vf = .int .i64 fr ∧ vk = .int .i64 (k : Int) ∧ w = wr ∧ k ≤ n ∧ n - k < g1 ∧ (-209715200 ≤ fr ∧ fr ≤ 1048576) ∧ Hid (fr = freO av gap k f))
  case atStart => exact ⟨0, av, rfl, by go_num, rfl, by omega, by omega, by have := HAV.out; omega, by show av = spcF av gap 0 - 0; simp [spcF]⟩
  case round =>
    obtain ⟨k, fr, rfl, rfl, rfl, hk, hg, ⟨b1, b2⟩, E⟩ := hrel
    by_cases hlt : k < n
    · have hltz : (k : Int) < (n : Int) := by omega
      obtain ⟨b, off, rfl, hc⟩ := HF.out (by omega)
      have cf := hc k hlt
      have hfb := HO.out.2.2.2 k hlt
      have L3 := fun W => hide (rlength_any (f k) W)
      have e3 : lenB (f k) = true := decide_eq_true hfb
      rw [e3] at L3
      have hnb := fre_bdO hn HO.out (k := k + 1) (by omega)
      have EN : freO av gap (k + 1) f = if k = 0 then fr - f k else fr - f k - gap := by
        rw [E.out]
        unfold freO spcF
        by_cases h0 : k = 0
        · subst h0; simp [sumF] <;> omega
        · rw [if_neg (by omega), if_neg h0, if_neg h0, Int.natCast_succ, show ((k : Int) + 1 - 1) = (k - 1) + 1 by omega, Int.mul_add]
          simp only [sumF]
          omega
      clear hc e3 E
      generalize f k = F at *
      obtain ⟨N, hN⟩ : ∃ N, freO av gap (k + 1) f = N := ⟨_, rfl⟩
      rw [hN] at EN hnb
      replace hN := hide hN
      obtain ⟨f1, f2⟩ := hfb
      obtain ⟨n1, n2⟩ := hnb
      obtain ⟨g1, g2⟩ := HGA.out
      by_cases h0 : k = 0
      · rw [if_pos h0] at EN
        have h0z : ¬ (0 : Int) < (k : Int) := by omega
        have EN2 : Hid (fr - F = freO av gap (k + 1) f) := by show _ = _; rw [hN.out]; exact EN.symm
        have cf0 := cf
        subst h0
        rw [Nat.add_zero] at cf0
        have nb2 : -209715200 ≤ fr - F ∧ fr - F ≤ 1048576 := by omega
        clear cf
        clear EN
        go_wp2_with fail
        refine (L3 _).out.mono ?_
        rintro e w' ⟨rfl, rfl⟩
        go_wp2_with fail
        go_roundg (n - 0)
        case measure => omega
        case rel => exact ⟨0 + 1, _, rfl, by go_num, rfl, by omega, by omega, nb2, EN2⟩
      · rw [if_neg h0] at EN
        have h0z : (0 : Int) < (k : Int) := by omega
        have EN2 : Hid (fr - F - gap = freO av gap (k + 1) f) := by show _ = _; rw [hN.out]; exact EN.symm
        have nb2 : -209715200 ≤ fr - F - gap ∧ fr - F - gap ≤ 1048576 := by omega
        clear EN
        go_wp2_with fail
        refine (L3 _).out.mono ?_
        rintro e w' ⟨rfl, rfl⟩
        go_wp2_with fail
        go_roundg (n - k)
        case measure => omega
        case rel => exact ⟨k + 1, _, rfl, by go_num, rfl, by omega, by omega, nb2, EN2⟩
    · have hltz : ¬ (k : Int) < (n : Int) := by omega
      obtain rfl : n = k := by omega
      have EF := hide E.out
      have B4 : Hid (Below w.heap.size w (w.alloc (.cells (ints n fun _ => 0) 3))) := (Below.refl _ _).alloc (Nat.le_refl _) _
      have X4 : Hid (IRow (w.alloc (.cells (ints n fun _ => 0) 3)) w.heap.size n (fun _ => 0)) := IRow.new w n _
      clear E hg hlt hk
      obtain ⟨xb, hxb⟩ : ∃ xb, xb = w.heap.size := ⟨_, rfl⟩
      rw [← hxb] at X4
      have HXB := hide hxb
      clear hxb
      have hju : ju = 0 ∨ ju = 1 ∨ ju = 2 ∨ (ju = 3 ∧ ¬ 0 < fr) ∨ (ju = 3 ∧ 0 < fr ∧ ¬ (1 : Int) < (n : Int)) ∨ (ju = 3 ∧ 0 < fr ∧ (1 : Int) < (n : Int)) := by omega
      have NOX : Hid (¬ (ju = 3 ∧ 0 < fr ∧ 1 < n) → IRow (w.alloc (.cells (ints n fun _ => 0) 3)) xb n (extO av gap ju n f)) := fun h => X4.out.congr fun j hj => by
        unfold extO
        rw [if_neg (fun hh => h ⟨hh.1, by rw [EF.out]; exact hh.2.1, hh.2.2.1⟩)]
      rcases hju with rfl | rfl | rfl | ⟨rfl, h3⟩ | ⟨rfl, h3, h4⟩ | ⟨rfl, h3, h4⟩
      · have X5 : Hid (IRow (w.alloc (.cells (ints n fun _ => 0) 3)) xb n (extO av gap 0 n f)) := NOX.out (by omega)
        have B5 := hide B4.out
        clear NOX X4 B4
        have HAT : Hid (0 = atO av gap 0 n f 0) := by show _ = at0 0 (freO av gap n f); rw [← EF.out]; simp [at0]
        have hmk2 : ∀ W : World, (Instr.makeSlice 23 (.int .i64 (n : Int)) (.int .i64 (n : Int))).run Try.prog W = .ok (.slice (some ⟨W.heap.size, 0, none⟩) n n) (W.alloc (.cells (ints n (fun _ => 0)) 3)) := make_ints n (by omega)
        have hsz5 : Hid ((w.alloc (.cells (ints n fun _ => 0) 3)).heap.size = (xb + 1)) := by show (w.alloc _).heap.size = xb + 1; rw [World.size_alloc, HXB.out]
        have B6 : Hid (Below w.heap.size w ((w.alloc (.cells (ints n fun _ => 0) 3)).alloc (.cells (ints n fun _ => 0) 3))) := B5.out.alloc B5.out.size _
        have X6 : Hid (IRow ((w.alloc (.cells (ints n fun _ => 0) 3)).alloc (.cells (ints n fun _ => 0) 3)) xb n (extO av gap 0 n f)) := X5.out.alloc _
        have L6 : Hid (IRow ((w.alloc (.cells (ints n fun _ => 0) 3)).alloc (.cells (ints n fun _ => 0) 3)) (xb + 1) n (fun j => if j < 0 then ofF av gap 0 n f r j else 0)) := by
          have := (IRow.new (w.alloc (.cells (ints n fun _ => 0) 3)) n (fun _ => 0)).congr (g := fun j => if j < 0 then ofF av gap 0 n f r j else 0) fun j hj => by simp
          rwa [hsz5.out] at this
        have hlb : Hid (xb ≠ (xb + 1) ∧ w.heap.size ≤ (xb + 1)) := ⟨by have := X5.out.lt; rw [hsz5.out] at this; omega, by have := B5.out.size; rwa [hsz5.out] at this⟩
        skip
        go_wp2_with fail
        rw [← HXB.out]
        clear hmk2 hsz5 B5 X5
        generalize ((w.alloc (.cells (ints n fun _ => 0) 3)).alloc (.cells (ints n fun _ => 0) 3)) = w6 at *
        generalize (xb + 1) = lb at *
        go_loopg [18, 20] (n + 1) (fun g3 va vi wr => ∃ (i : Nat) (a : Int), va = .int .i64 a ∧ vi = .int .i64 (i : Int) ∧ i ≤ n ∧ n - i < g3 ∧ (-209715200 ≤ a ∧ a ≤ 8000000 + i * 4000000) ∧ Hid (a = atO av gap 0 n f i) ∧ Hid (Below w.heap.size w wr) ∧ Hid (IRow wr xb n (extO av gap 0 n f)) ∧ Hid (IRow wr lb n (fun j => if j < i then ofF av gap 0 n f r j else 0)))
        case atStart => exact ⟨0, _, rfl, by go_num, by omega, by omega, by have := at_bd hn HO.out 0 (by omega); rw [← HAT.out] at this; omega, HAT, B6, X6, L6⟩
        case round =>
          clear B6 X6 L6
          obtain ⟨wo, rfl⟩ : ∃ wo : World, wo = wr := ⟨_, rfl⟩
          obtain ⟨i, a, rfl, rfl, hi, hg3, ⟨a1, a2⟩, EA, B, X, L⟩ := hrel
          by_cases hlt : i < n
          · have hltz : (i : Int) < (n : Int) := by omega
            have hi0 : (0 : Int) ≤ (i : Int) := by omega
            obtain ⟨b, off, rfl, hbw, hc⟩ := reads_at HF.out B.out hlt
            have cx := X.out.cell hlt
            have hfb := HO.out.2.2.2 i hlt
            have hxb := ext_bd hn HO.out hlt
            have hpb := pos_bd hn HO.out i hlt
            have hpa := pos_at av gap 0 n f i
            rw [← EA.out] at hpa
            have EN : Hid (posO av gap 0 n f i + f i = atO av gap 0 n f (i + 1)) := rfl
            have ST : Hid (∀ W u, (Below w.heap.size w W ∧ IRow W xb n (extO av gap 0 n f) ∧ IRow W lb n (fun j => if j = i then u else if j < i then ofF av gap 0 n f r j else 0)) → (W.cell? ⟨lb, i, none⟩ = some (.int .i64 u) ∧ W.frozen? ⟨lb, i, none⟩ = false ∧ W.cell? ⟨b, off + i, none⟩ = some (.int .i64 (f i))) ∧ ∀ v, (Below w.heap.size w (W.setCell ⟨lb, i, none⟩ (.int .i64 v)) ∧ IRow (W.setCell ⟨lb, i, none⟩ (.int .i64 v)) xb n (extO av gap 0 n f) ∧ IRow (W.setCell ⟨lb, i, none⟩ (.int .i64 v)) lb n (fun j => if j = i then v else if j < i then ofF av gap 0 n f r j else 0))) := fun W u ⟨s1, s2, s3⟩ => by
              have q := s3.cell hlt
              simp only [if_true] at q
              refine ⟨⟨q, s3.frozen i, ?_⟩, fun v => ⟨s1.setCell (by show w.heap.size ≤ lb; exact hlb.out.2) _, s2.far (by show xb ≠ lb; exact hlb.out.1) _, (s3.set_ i v).congr fun j hj => ?_⟩⟩
              · obtain ⟨b', off', e', _, hc'⟩ := reads_at HF.out s1 hlt
                simp only [Option.some.injEq, Addr.mk.injEq, and_true] at e'
                obtain ⟨rfl, rfl⟩ := e'
                exact hc'
              · by_cases h1 : j = i
                · simp [h1]
                · simp [h1]
            have s0 : Below w.heap.size w wo ∧ IRow wo xb n (extO av gap 0 n f) ∧ IRow wo lb n (fun j => if j = i then 0 else if j < i then ofF av gap 0 n f r j else 0) := ⟨B.out, X.out, L.out.congr fun j hj => by
              by_cases h1 : j = i
              · simp [h1]
              · simp [h1]⟩
            have FIN : Hid (∀ W u, u = ofF av gap 0 n f r i → (Below w.heap.size w W ∧ IRow W xb n (extO av gap 0 n f) ∧ IRow W lb n (fun j => if j = i then u else if j < i then ofF av gap 0 n f r j else 0)) → Hid (Below w.heap.size w W) ∧ Hid (IRow W xb n (extO av gap 0 n f)) ∧ Hid (IRow W lb n (fun j => if j < i + 1 then ofF av gap 0 n f r j else 0))) := fun W u hu ⟨s1, s2, s3⟩ => ⟨s1, s2, s3.congr fun j hj => by
              by_cases h1 : j = i
              · subst h1; simp [hu]
              · by_cases h2 : j < i
                · simp [h1, h2, show j < i + 1 by omega]
                · simp [h1, h2, show ¬ j < i + 1 by omega]⟩
            have OV : Hid (ofF av gap 0 n f r i = if r then av - f i - posO av gap 0 n f i else posO av gap 0 n f i) := rfl
            obtain ⟨⟨y1, y2, y3⟩, y4⟩ := ST.out wo 0 s0
            have z4 := y4 (posO av gap 0 n f i)
            obtain ⟨⟨z1, z2, z3⟩, z5⟩ := ST.out _ _ z4
            have v4 := z5 (av - f i - posO av gap 0 n f i)
            obtain ⟨⟨v1', v2', v3'⟩, v5⟩ := ST.out _ _ v4
            have Z4 := hide z4
            have V4 := hide v4
            clear ST s0 hc B X L EA y4 z4 z5 v4 v5 v1' v2'
            generalize posO av gap 0 n f i = P at *
            generalize ofF av gap 0 n f r i = O at *
            generalize extO av gap 0 n f i = E at *
            generalize hfi : f i = F at *
            clear hfi
            obtain ⟨f1, f2⟩ := hfb
            obtain ⟨x1, x2⟩ := hxb
            obtain ⟨p1, p2⟩ := hpb
            obtain ⟨v1, v2⟩ := HAV.out
            obtain ⟨g1, g2⟩ := HGA.out
            by_cases h0 : i = 0
            · rw [if_pos h0] at hpa
              have h0z : ¬ (0 : Int) < (i : Int) := by omega
              subst hpa
              subst h0
              rw [Nat.add_zero] at y3 z3 v3'
              cases r with
              | false =>
                have ov := OV.out
                simp only [if_true, if_false, Bool.false_eq_true] at ov
                have Q := hide (FIN.out _ _ ov.symm Z4.out)
                clear OV FIN Z4 V4
                go_wp2_with fail
                go_roundg (n - 0)
                case measure => omega
                case rel => exact ⟨0 + 1, _, rfl, by go_num, by omega, by omega, by omega, EN, Q.out.1, Q.out.2.1, Q.out.2.2⟩
              | true =>
                have ov := OV.out
                simp only [if_true, if_false, Bool.false_eq_true] at ov
                have Q := hide (FIN.out _ _ ov.symm V4.out)
                clear OV FIN Z4 V4
                go_wp2_with fail
                go_roundg (n - 0)
                case measure => omega
                case rel => exact ⟨0 + 1, _, rfl, by go_num, by omega, by omega, by omega, EN, Q.out.1, Q.out.2.1, Q.out.2.2⟩
            · rw [if_neg h0] at hpa
              have h0z : (0 : Int) < (i : Int) := by omega
              have wg : IntKind.i64.wrap (gap + E) = gap + E := wr (by omega) (by omega)
              have wp : IntKind.i64.wrap (a + (gap + E)) = P := by rw [hpa]; exact wr (by omega) (by omega)
              clear hpa
              cases r with
              | false =>
                have ov := OV.out
                simp only [if_true, if_false, Bool.false_eq_true] at ov
                have Q := hide (FIN.out _ _ ov.symm Z4.out)
                clear OV FIN Z4 V4
                go_wp2_with fail
                go_roundg (n - i)
                case measure => omega
                case rel => exact ⟨i + 1, _, rfl, by go_num, by omega, by omega, by omega, EN, Q.out.1, Q.out.2.1, Q.out.2.2⟩
              | true =>
                have ov := OV.out
                simp only [if_true, if_false, Bool.false_eq_true] at ov
                have Q := hide (FIN.out _ _ ov.symm V4.out)
                clear OV FIN Z4 V4
                go_wp2_with fail
                go_roundg (n - i)
                case measure => omega
                case rel => exact ⟨i + 1, _, rfl, by go_num, by omega, by omega, by omega, EN, Q.out.1, Q.out.2.1, Q.out.2.2⟩
          · have hltz : ¬ (i : Int) < (n : Int) := by omega
            obtain rfl : n = i := by omega
            have LF : Hid (IRow wo lb n (ofF av gap 0 n f r)) := L.out.congr fun j hj => by simp [hj]
            clear L X EA
            go_wp2_with fail
            go_ret
            exact ⟨lb, rfl, hlb.out.2, LF.out, B.out⟩
      · have X5 : Hid (IRow (w.alloc (.cells (ints n fun _ => 0) 3)) xb n (extO av gap 1 n f)) := NOX.out (by omega)
        have B5 := hide B4.out
        clear NOX X4 B4
        have HAT : Hid (fr = atO av gap 1 n f 0) := by show _ = at0 1 (freO av gap n f); rw [← EF.out]; simp [at0]
        have hmk2 : ∀ W : World, (Instr.makeSlice 23 (.int .i64 (n : Int)) (.int .i64 (n : Int))).run Try.prog W = .ok (.slice (some ⟨W.heap.size, 0, none⟩) n n) (W.alloc (.cells (ints n (fun _ => 0)) 3)) := make_ints n (by omega)
        have hsz5 : Hid ((w.alloc (.cells (ints n fun _ => 0) 3)).heap.size = (xb + 1)) := by show (w.alloc _).heap.size = xb + 1; rw [World.size_alloc, HXB.out]
        have B6 : Hid (Below w.heap.size w ((w.alloc (.cells (ints n fun _ => 0) 3)).alloc (.cells (ints n fun _ => 0) 3))) := B5.out.alloc B5.out.size _
        have X6 : Hid (IRow ((w.alloc (.cells (ints n fun _ => 0) 3)).alloc (.cells (ints n fun _ => 0) 3)) xb n (extO av gap 1 n f)) := X5.out.alloc _
        have L6 : Hid (IRow ((w.alloc (.cells (ints n fun _ => 0) 3)).alloc (.cells (ints n fun _ => 0) 3)) (xb + 1) n (fun j => if j < 0 then ofF av gap 1 n f r j else 0)) := by
          have := (IRow.new (w.alloc (.cells (ints n fun _ => 0) 3)) n (fun _ => 0)).congr (g := fun j => if j < 0 then ofF av gap 1 n f r j else 0) fun j hj => by simp
          rwa [hsz5.out] at this
        have hlb : Hid (xb ≠ (xb + 1) ∧ w.heap.size ≤ (xb + 1)) := ⟨by have := X5.out.lt; rw [hsz5.out] at this; omega, by have := B5.out.size; rwa [hsz5.out] at this⟩
        skip
        go_wp2_with fail
        rw [← HXB.out]
        clear hmk2 hsz5 B5 X5
        generalize ((w.alloc (.cells (ints n fun _ => 0) 3)).alloc (.cells (ints n fun _ => 0) 3)) = w6 at *
        generalize (xb + 1) = lb at *
        go_loopg [18, 20] (n + 1) (fun g3 va vi wr => ∃ (i : Nat) (a : Int), va = .int .i64 a ∧ vi = .int .i64 (i : Int) ∧ i ≤ n ∧ n - i < g3 ∧ (-209715200 ≤ a ∧ a ≤ 8000000 + i * 4000000) ∧ Hid (a = atO av gap 1 n f i) ∧ Hid (Below w.heap.size w wr) ∧ Hid (IRow wr xb n (extO av gap 1 n f)) ∧ Hid (IRow wr lb n (fun j => if j < i then ofF av gap 1 n f r j else 0)))
        case atStart => exact ⟨0, _, rfl, by go_num, by omega, by omega, by have := at_bd hn HO.out 0 (by omega); rw [← HAT.out] at this; omega, HAT, B6, X6, L6⟩
        case round =>
          clear B6 X6 L6
          obtain ⟨wo, rfl⟩ : ∃ wo : World, wo = wr := ⟨_, rfl⟩
          obtain ⟨i, a, rfl, rfl, hi, hg3, ⟨a1, a2⟩, EA, B, X, L⟩ := hrel
          by_cases hlt : i < n
          · have hltz : (i : Int) < (n : Int) := by omega
            have hi0 : (0 : Int) ≤ (i : Int) := by omega
            obtain ⟨b, off, rfl, hbw, hc⟩ := reads_at HF.out B.out hlt
            have cx := X.out.cell hlt
            have hfb := HO.out.2.2.2 i hlt
            have hxb := ext_bd hn HO.out hlt
            have hpb := pos_bd hn HO.out i hlt
            have hpa := pos_at av gap 1 n f i
            rw [← EA.out] at hpa
            have EN : Hid (posO av gap 1 n f i + f i = atO av gap 1 n f (i + 1)) := rfl
            have ST : Hid (∀ W u, (Below w.heap.size w W ∧ IRow W xb n (extO av gap 1 n f) ∧ IRow W lb n (fun j => if j = i then u else if j < i then ofF av gap 1 n f r j else 0)) → (W.cell? ⟨lb, i, none⟩ = some (.int .i64 u) ∧ W.frozen? ⟨lb, i, none⟩ = false ∧ W.cell? ⟨b, off + i, none⟩ = some (.int .i64 (f i))) ∧ ∀ v, (Below w.heap.size w (W.setCell ⟨lb, i, none⟩ (.int .i64 v)) ∧ IRow (W.setCell ⟨lb, i, none⟩ (.int .i64 v)) xb n (extO av gap 1 n f) ∧ IRow (W.setCell ⟨lb, i, none⟩ (.int .i64 v)) lb n (fun j => if j = i then v else if j < i then ofF av gap 1 n f r j else 0))) := fun W u ⟨s1, s2, s3⟩ => by
              have q := s3.cell hlt
              simp only [if_true] at q
              refine ⟨⟨q, s3.frozen i, ?_⟩, fun v => ⟨s1.setCell (by show w.heap.size ≤ lb; exact hlb.out.2) _, s2.far (by show xb ≠ lb; exact hlb.out.1) _, (s3.set_ i v).congr fun j hj => ?_⟩⟩
              · obtain ⟨b', off', e', _, hc'⟩ := reads_at HF.out s1 hlt
                simp only [Option.some.injEq, Addr.mk.injEq, and_true] at e'
                obtain ⟨rfl, rfl⟩ := e'
                exact hc'
              · by_cases h1 : j = i
                · simp [h1]
                · simp [h1]
            have s0 : Below w.heap.size w wo ∧ IRow wo xb n (extO av gap 1 n f) ∧ IRow wo lb n (fun j => if j = i then 0 else if j < i then ofF av gap 1 n f r j else 0) := ⟨B.out, X.out, L.out.congr fun j hj => by
              by_cases h1 : j = i
              · simp [h1]
              · simp [h1]⟩
            have FIN : Hid (∀ W u, u = ofF av gap 1 n f r i → (Below w.heap.size w W ∧ IRow W xb n (extO av gap 1 n f) ∧ IRow W lb n (fun j => if j = i then u else if j < i then ofF av gap 1 n f r j else 0)) → Hid (Below w.heap.size w W) ∧ Hid (IRow W xb n (extO av gap 1 n f)) ∧ Hid (IRow W lb n (fun j => if j < i + 1 then ofF av gap 1 n f r j else 0))) := fun W u hu ⟨s1, s2, s3⟩ => ⟨s1, s2, s3.congr fun j hj => by
              by_cases h1 : j = i
              · subst h1; simp [hu]
              · by_cases h2 : j < i
                · simp [h1, h2, show j < i + 1 by omega]
                · simp [h1, h2, show ¬ j < i + 1 by omega]⟩
            have OV : Hid (ofF av gap 1 n f r i = if r then av - f i - posO av gap 1 n f i else posO av gap 1 n f i) := rfl
            obtain ⟨⟨y1, y2, y3⟩, y4⟩ := ST.out wo 0 s0
            have z4 := y4 (posO av gap 1 n f i)
            obtain ⟨⟨z1, z2, z3⟩, z5⟩ := ST.out _ _ z4
            have v4 := z5 (av - f i - posO av gap 1 n f i)
            obtain ⟨⟨v1', v2', v3'⟩, v5⟩ := ST.out _ _ v4
            have Z4 := hide z4
            have V4 := hide v4
            clear ST s0 hc B X L EA y4 z4 z5 v4 v5 v1' v2'
            generalize posO av gap 1 n f i = P at *
            generalize ofF av gap 1 n f r i = O at *
            generalize extO av gap 1 n f i = E at *
            generalize hfi : f i = F at *
            clear hfi
            obtain ⟨f1, f2⟩ := hfb
            obtain ⟨x1, x2⟩ := hxb
            obtain ⟨p1, p2⟩ := hpb
            obtain ⟨v1, v2⟩ := HAV.out
            obtain ⟨g1, g2⟩ := HGA.out
            by_cases h0 : i = 0
            · rw [if_pos h0] at hpa
              have h0z : ¬ (0 : Int) < (i : Int) := by omega
              subst hpa
              subst h0
              rw [Nat.add_zero] at y3 z3 v3'
              cases r with
              | false =>
                have ov := OV.out
                simp only [if_true, if_false, Bool.false_eq_true] at ov
                have Q := hide (FIN.out _ _ ov.symm Z4.out)
                clear OV FIN Z4 V4
                go_wp2_with fail
                go_roundg (n - 0)
                case measure => omega
                case rel => exact ⟨0 + 1, _, rfl, by go_num, by omega, by omega, by omega, EN, Q.out.1, Q.out.2.1, Q.out.2.2⟩
              | true =>
                have ov := OV.out
                simp only [if_true, if_false, Bool.false_eq_true] at ov
                have Q := hide (FIN.out _ _ ov.symm V4.out)
                clear OV FIN Z4 V4
                go_wp2_with fail
                go_roundg (n - 0)
                case measure => omega
                case rel => exact ⟨0 + 1, _, rfl, by go_num, by omega, by omega, by omega, EN, Q.out.1, Q.out.2.1, Q.out.2.2⟩
            · rw [if_neg h0] at hpa
              have h0z : (0 : Int) < (i : Int) := by omega
              have wg : IntKind.i64.wrap (gap + E) = gap + E := wr (by omega) (by omega)
              have wp : IntKind.i64.wrap (a + (gap + E)) = P := by rw [hpa]; exact wr (by omega) (by omega)
              clear hpa
              cases r with
              | false =>
                have ov := OV.out
                simp only [if_true, if_false, Bool.false_eq_true] at ov
                have Q := hide (FIN.out _ _ ov.symm Z4.out)
                clear OV FIN Z4 V4
                go_wp2_with fail
                go_roundg (n - i)
                case measure => omega
                case rel => exact ⟨i + 1, _, rfl, by go_num, by omega, by omega, by omega, EN, Q.out.1, Q.out.2.1, Q.out.2.2⟩
              | true =>
                have ov := OV.out
                simp only [if_true, if_false, Bool.false_eq_true] at ov
                have Q := hide (FIN.out _ _ ov.symm V4.out)
                clear OV FIN Z4 V4
                go_wp2_with fail
                go_roundg (n - i)
                case measure => omega
                case rel => exact ⟨i + 1, _, rfl, by go_num, by omega, by omega, by omega, EN, Q.out.1, Q.out.2.1, Q.out.2.2⟩
          · have hltz : ¬ (i : Int) < (n : Int) := by omega
            obtain rfl : n = i := by omega
            have LF : Hid (IRow wo lb n (ofF av gap 1 n f r)) := L.out.congr fun j hj => by simp [hj]
            clear L X EA
            go_wp2_with fail
            go_ret
            exact ⟨lb, rfl, hlb.out.2, LF.out, B.out⟩
      · have X5 : Hid (IRow (w.alloc (.cells (ints n fun _ => 0) 3)) xb n (extO av gap 2 n f)) := NOX.out (by omega)
        have B5 := hide B4.out
        clear NOX X4 B4
        have HAT : Hid (flr fr 2 = atO av gap 2 n f 0) := by show _ = at0 2 (freO av gap n f); rw [← EF.out]; simp [at0]
        have hmk2 : ∀ W : World, (Instr.makeSlice 23 (.int .i64 (n : Int)) (.int .i64 (n : Int))).run Try.prog W = .ok (.slice (some ⟨W.heap.size, 0, none⟩) n n) (W.alloc (.cells (ints n (fun _ => 0)) 3)) := make_ints n (by omega)
        have hsz5 : Hid ((w.alloc (.cells (ints n fun _ => 0) 3)).heap.size = (xb + 1)) := by show (w.alloc _).heap.size = xb + 1; rw [World.size_alloc, HXB.out]
        have B6 : Hid (Below w.heap.size w ((w.alloc (.cells (ints n fun _ => 0) 3)).alloc (.cells (ints n fun _ => 0) 3))) := B5.out.alloc B5.out.size _
        have X6 : Hid (IRow ((w.alloc (.cells (ints n fun _ => 0) 3)).alloc (.cells (ints n fun _ => 0) 3)) xb n (extO av gap 2 n f)) := X5.out.alloc _
        have L6 : Hid (IRow ((w.alloc (.cells (ints n fun _ => 0) 3)).alloc (.cells (ints n fun _ => 0) 3)) (xb + 1) n (fun j => if j < 0 then ofF av gap 2 n f r j else 0)) := by
          have := (IRow.new (w.alloc (.cells (ints n fun _ => 0) 3)) n (fun _ => 0)).congr (g := fun j => if j < 0 then ofF av gap 2 n f r j else 0) fun j hj => by simp
          rwa [hsz5.out] at this
        have hlb : Hid (xb ≠ (xb + 1) ∧ w.heap.size ≤ (xb + 1)) := ⟨by have := X5.out.lt; rw [hsz5.out] at this; omega, by have := B5.out.size; rwa [hsz5.out] at this⟩
        have bfr := fre_bdO hn HO.out (Nat.le_refl n)
        rw [← EF.out] at bfr
        have FLC := fun W => hide (rFloor_in fr 2 W ⟨by omega, by omega, by omega⟩)
        go_wp2_with fail
        refine (FLC _).out.mono ?_
        rintro e w' ⟨rfl, rfl⟩
        clear FLC
        go_wp2_with fail
        rw [← HXB.out]
        clear hmk2 hsz5 B5 X5
        generalize ((w.alloc (.cells (ints n fun _ => 0) 3)).alloc (.cells (ints n fun _ => 0) 3)) = w6 at *
        generalize (xb + 1) = lb at *
        go_loopg [18, 20] (n + 1) (fun g3 va vi wr => ∃ (i : Nat) (a : Int), va = .int .i64 a ∧ vi = .int .i64 (i : Int) ∧ i ≤ n ∧ n - i < g3 ∧ (-209715200 ≤ a ∧ a ≤ 8000000 + i * 4000000) ∧ Hid (a = atO av gap 2 n f i) ∧ Hid (Below w.heap.size w wr) ∧ Hid (IRow wr xb n (extO av gap 2 n f)) ∧ Hid (IRow wr lb n (fun j => if j < i then ofF av gap 2 n f r j else 0)))
        case atStart => exact ⟨0, _, rfl, by go_num, by omega, by omega, by have := at_bd hn HO.out 0 (by omega); rw [← HAT.out] at this; omega, HAT, B6, X6, L6⟩
        case round =>
          clear B6 X6 L6
          obtain ⟨wo, rfl⟩ : ∃ wo : World, wo = wr := ⟨_, rfl⟩
          obtain ⟨i, a, rfl, rfl, hi, hg3, ⟨a1, a2⟩, EA, B, X, L⟩ := hrel
          by_cases hlt : i < n
          · have hltz : (i : Int) < (n : Int) := by omega
            have hi0 : (0 : Int) ≤ (i : Int) := by omega
            obtain ⟨b, off, rfl, hbw, hc⟩ := reads_at HF.out B.out hlt
            have cx := X.out.cell hlt
            have hfb := HO.out.2.2.2 i hlt
            have hxb := ext_bd hn HO.out hlt
            have hpb := pos_bd hn HO.out i hlt
            have hpa := pos_at av gap 2 n f i
            rw [← EA.out] at hpa
            have EN : Hid (posO av gap 2 n f i + f i = atO av gap 2 n f (i + 1)) := rfl
            have ST : Hid (∀ W u, (Below w.heap.size w W ∧ IRow W xb n (extO av gap 2 n f) ∧ IRow W lb n (fun j => if j = i then u else if j < i then ofF av gap 2 n f r j else 0)) → (W.cell? ⟨lb, i, none⟩ = some (.int .i64 u) ∧ W.frozen? ⟨lb, i, none⟩ = false ∧ W.cell? ⟨b, off + i, none⟩ = some (.int .i64 (f i))) ∧ ∀ v, (Below w.heap.size w (W.setCell ⟨lb, i, none⟩ (.int .i64 v)) ∧ IRow (W.setCell ⟨lb, i, none⟩ (.int .i64 v)) xb n (extO av gap 2 n f) ∧ IRow (W.setCell ⟨lb, i, none⟩ (.int .i64 v)) lb n (fun j => if j = i then v else if j < i then ofF av gap 2 n f r j else 0))) := fun W u ⟨s1, s2, s3⟩ => by
              have q := s3.cell hlt
              simp only [if_true] at q
              refine ⟨⟨q, s3.frozen i, ?_⟩, fun v => ⟨s1.setCell (by show w.heap.size ≤ lb; exact hlb.out.2) _, s2.far (by show xb ≠ lb; exact hlb.out.1) _, (s3.set_ i v).congr fun j hj => ?_⟩⟩
              · obtain ⟨b', off', e', _, hc'⟩ := reads_at HF.out s1 hlt
                simp only [Option.some.injEq, Addr.mk.injEq, and_true] at e'
                obtain ⟨rfl, rfl⟩ := e'
                exact hc'
              · by_cases h1 : j = i
                · simp [h1]
                · simp [h1]
            have s0 : Below w.heap.size w wo ∧ IRow wo xb n (extO av gap 2 n f) ∧ IRow wo lb n (fun j => if j = i then 0 else if j < i then ofF av gap 2 n f r j else 0) := ⟨B.out, X.out, L.out.congr fun j hj => by
              by_cases h1 : j = i
              · simp [h1]
              · simp [h1]⟩
            have FIN : Hid (∀ W u, u = ofF av gap 2 n f r i → (Below w.heap.size w W ∧ IRow W xb n (extO av gap 2 n f) ∧ IRow W lb n (fun j => if j = i then u else if j < i then ofF av gap 2 n f r j else 0)) → Hid (Below w.heap.size w W) ∧ Hid (IRow W xb n (extO av gap 2 n f)) ∧ Hid (IRow W lb n (fun j => if j < i + 1 then ofF av gap 2 n f r j else 0))) := fun W u hu ⟨s1, s2, s3⟩ => ⟨s1, s2, s3.congr fun j hj => by
              by_cases h1 : j = i
              · subst h1; simp [hu]
              · by_cases h2 : j < i
                · simp [h1, h2, show j < i + 1 by omega]
                · simp [h1, h2, show ¬ j < i + 1 by omega]⟩
            have OV : Hid (ofF av gap 2 n f r i = if r then av - f i - posO av gap 2 n f i else posO av gap 2 n f i) := rfl
            obtain ⟨⟨y1, y2, y3⟩, y4⟩ := ST.out wo 0 s0
            have z4 := y4 (posO av gap 2 n f i)
            obtain ⟨⟨z1, z2, z3⟩, z5⟩ := ST.out _ _ z4
            have v4 := z5 (av - f i - posO av gap 2 n f i)
            obtain ⟨⟨v1', v2', v3'⟩, v5⟩ := ST.out _ _ v4
            have Z4 := hide z4
            have V4 := hide v4
            clear ST s0 hc B X L EA y4 z4 z5 v4 v5 v1' v2'
            generalize posO av gap 2 n f i = P at *
            generalize ofF av gap 2 n f r i = O at *
            generalize extO av gap 2 n f i = E at *
            generalize hfi : f i = F at *
            clear hfi
            obtain ⟨f1, f2⟩ := hfb
            obtain ⟨x1, x2⟩ := hxb
            obtain ⟨p1, p2⟩ := hpb
            obtain ⟨v1, v2⟩ := HAV.out
            obtain ⟨g1, g2⟩ := HGA.out
            by_cases h0 : i = 0
            · rw [if_pos h0] at hpa
              have h0z : ¬ (0 : Int) < (i : Int) := by omega
              subst hpa
              subst h0
              rw [Nat.add_zero] at y3 z3 v3'
              cases r with
              | false =>
                have ov := OV.out
                simp only [if_true, if_false, Bool.false_eq_true] at ov
                have Q := hide (FIN.out _ _ ov.symm Z4.out)
                clear OV FIN Z4 V4
                go_wp2_with fail
                go_roundg (n - 0)
                case measure => omega
                case rel => exact ⟨0 + 1, _, rfl, by go_num, by omega, by omega, by omega, EN, Q.out.1, Q.out.2.1, Q.out.2.2⟩
              | true =>
                have ov := OV.out
                simp only [if_true, if_false, Bool.false_eq_true] at ov
                have Q := hide (FIN.out _ _ ov.symm V4.out)
                clear OV FIN Z4 V4
                go_wp2_with fail
                go_roundg (n - 0)
                case measure => omega
                case rel => exact ⟨0 + 1, _, rfl, by go_num, by omega, by omega, by omega, EN, Q.out.1, Q.out.2.1, Q.out.2.2⟩
            · rw [if_neg h0] at hpa
              have h0z : (0 : Int) < (i : Int) := by omega
              have wg : IntKind.i64.wrap (gap + E) = gap + E := wr (by omega) (by omega)
              have wp : IntKind.i64.wrap (a + (gap + E)) = P := by rw [hpa]; exact wr (by omega) (by omega)
              clear hpa
              cases r with
              | false =>
                have ov := OV.out
                simp only [if_true, if_false, Bool.false_eq_true] at ov
                have Q := hide (FIN.out _ _ ov.symm Z4.out)
                clear OV FIN Z4 V4
                go_wp2_with fail
                go_roundg (n - i)
                case measure => omega
                case rel => exact ⟨i + 1, _, rfl, by go_num, by omega, by omega, by omega, EN, Q.out.1, Q.out.2.1, Q.out.2.2⟩
              | true =>
                have ov := OV.out
                simp only [if_true, if_false, Bool.false_eq_true] at ov
                have Q := hide (FIN.out _ _ ov.symm V4.out)
                clear OV FIN Z4 V4
                go_wp2_with fail
                go_roundg (n - i)
                case measure => omega
                case rel => exact ⟨i + 1, _, rfl, by go_num, by omega, by omega, by omega, EN, Q.out.1, Q.out.2.1, Q.out.2.2⟩
          · have hltz : ¬ (i : Int) < (n : Int) := by omega
            obtain rfl : n = i := by omega
            have LF : Hid (IRow wo lb n (ofF av gap 2 n f r)) := L.out.congr fun j hj => by simp [hj]
            clear L X EA
            go_wp2_with fail
            go_ret
            exact ⟨lb, rfl, hlb.out.2, LF.out, B.out⟩
      · have X5 : Hid (IRow (w.alloc (.cells (ints n fun _ => 0) 3)) xb n (extO av gap 3 n f)) := NOX.out (fun h => h3 h.2.1)
        have B5 := hide B4.out
        clear NOX X4 B4
        have HAT : Hid (0 = atO av gap 3 n f 0) := by show _ = at0 3 (freO av gap n f); rw [← EF.out]; simp [at0]
        have hmk2 : ∀ W : World, (Instr.makeSlice 23 (.int .i64 (n : Int)) (.int .i64 (n : Int))).run Try.prog W = .ok (.slice (some ⟨W.heap.size, 0, none⟩) n n) (W.alloc (.cells (ints n (fun _ => 0)) 3)) := make_ints n (by omega)
        have hsz5 : Hid ((w.alloc (.cells (ints n fun _ => 0) 3)).heap.size = (xb + 1)) := by show (w.alloc _).heap.size = xb + 1; rw [World.size_alloc, HXB.out]
        have B6 : Hid (Below w.heap.size w ((w.alloc (.cells (ints n fun _ => 0) 3)).alloc (.cells (ints n fun _ => 0) 3))) := B5.out.alloc B5.out.size _
        have X6 : Hid (IRow ((w.alloc (.cells (ints n fun _ => 0) 3)).alloc (.cells (ints n fun _ => 0) 3)) xb n (extO av gap 3 n f)) := X5.out.alloc _
        have L6 : Hid (IRow ((w.alloc (.cells (ints n fun _ => 0) 3)).alloc (.cells (ints n fun _ => 0) 3)) (xb + 1) n (fun j => if j < 0 then ofF av gap 3 n f r j else 0)) := by
          have := (IRow.new (w.alloc (.cells (ints n fun _ => 0) 3)) n (fun _ => 0)).congr (g := fun j => if j < 0 then ofF av gap 3 n f r j else 0) fun j hj => by simp
          rwa [hsz5.out] at this
        have hlb : Hid (xb ≠ (xb + 1) ∧ w.heap.size ≤ (xb + 1)) := ⟨by have := X5.out.lt; rw [hsz5.out] at this; omega, by have := B5.out.size; rwa [hsz5.out] at this⟩
        skip
        go_wp2_with fail
        rw [← HXB.out]
        clear hmk2 hsz5 B5 X5
        generalize ((w.alloc (.cells (ints n fun _ => 0) 3)).alloc (.cells (ints n fun _ => 0) 3)) = w6 at *
        generalize (xb + 1) = lb at *
        go_loopg [18, 20] (n + 1) (fun g3 va vi wr => ∃ (i : Nat) (a : Int), va = .int .i64 a ∧ vi = .int .i64 (i : Int) ∧ i ≤ n ∧ n - i < g3 ∧ (-209715200 ≤ a ∧ a ≤ 8000000 + i * 4000000) ∧ Hid (a = atO av gap 3 n f i) ∧ Hid (Below w.heap.size w wr) ∧ Hid (IRow wr xb n (extO av gap 3 n f)) ∧ Hid (IRow wr lb n (fun j => if j < i then ofF av gap 3 n f r j else 0)))
        case atStart => exact ⟨0, _, rfl, by go_num, by omega, by omega, by have := at_bd hn HO.out 0 (by omega); rw [← HAT.out] at this; omega, HAT, B6, X6, L6⟩
        case round =>
          clear B6 X6 L6
          obtain ⟨wo, rfl⟩ : ∃ wo : World, wo = wr := ⟨_, rfl⟩
          obtain ⟨i, a, rfl, rfl, hi, hg3, ⟨a1, a2⟩, EA, B, X, L⟩ := hrel
          by_cases hlt : i < n
          · have hltz : (i : Int) < (n : Int) := by omega
            have hi0 : (0 : Int) ≤ (i : Int) := by omega
            obtain ⟨b, off, rfl, hbw, hc⟩ := reads_at HF.out B.out hlt
            have cx := X.out.cell hlt
            have hfb := HO.out.2.2.2 i hlt
            have hxb := ext_bd hn HO.out hlt
            have hpb := pos_bd hn HO.out i hlt
            have hpa := pos_at av gap 3 n f i
            rw [← EA.out] at hpa
            have EN : Hid (posO av gap 3 n f i + f i = atO av gap 3 n f (i + 1)) := rfl
            have ST : Hid (∀ W u, (Below w.heap.size w W ∧ IRow W xb n (extO av gap 3 n f) ∧ IRow W lb n (fun j => if j = i then u else if j < i then ofF av gap 3 n f r j else 0)) → (W.cell? ⟨lb, i, none⟩ = some (.int .i64 u) ∧ W.frozen? ⟨lb, i, none⟩ = false ∧ W.cell? ⟨b, off + i, none⟩ = some (.int .i64 (f i))) ∧ ∀ v, (Below w.heap.size w (W.setCell ⟨lb, i, none⟩ (.int .i64 v)) ∧ IRow (W.setCell ⟨lb, i, none⟩ (.int .i64 v)) xb n (extO av gap 3 n f) ∧ IRow (W.setCell ⟨lb, i, none⟩ (.int .i64 v)) lb n (fun j => if j = i then v else if j < i then ofF av gap 3 n f r j else 0))) := fun W u ⟨s1, s2, s3⟩ => by
              have q := s3.cell hlt
              simp only [if_true] at q
              refine ⟨⟨q, s3.frozen i, ?_⟩, fun v => ⟨s1.setCell (by show w.heap.size ≤ lb; exact hlb.out.2) _, s2.far (by show xb ≠ lb; exact hlb.out.1) _, (s3.set_ i v).congr fun j hj => ?_⟩⟩
              · obtain ⟨b', off', e', _, hc'⟩ := reads_at HF.out s1 hlt
                simp only [Option.some.injEq, Addr.mk.injEq, and_true] at e'
                obtain ⟨rfl, rfl⟩ := e'
                exact hc'
              · by_cases h1 : j = i
                · simp [h1]
                · simp [h1]
            have s0 : Below w.heap.size w wo ∧ IRow wo xb n (extO av gap 3 n f) ∧ IRow wo lb n (fun j => if j = i then 0 else if j < i then ofF av gap 3 n f r j else 0) := ⟨B.out, X.out, L.out.congr fun j hj => by
              by_cases h1 : j = i
              · simp [h1]
              · simp [h1]⟩
            have FIN : Hid (∀ W u, u = ofF av gap 3 n f r i → (Below w.heap.size w W ∧ IRow W xb n (extO av gap 3 n f) ∧ IRow W lb n (fun j => if j = i then u else if j < i then ofF av gap 3 n f r j else 0)) → Hid (Below w.heap.size w W) ∧ Hid (IRow W xb n (extO av gap 3 n f)) ∧ Hid (IRow W lb n (fun j => if j < i + 1 then ofF av gap 3 n f r j else 0))) := fun W u hu ⟨s1, s2, s3⟩ => ⟨s1, s2, s3.congr fun j hj => by
              by_cases h1 : j = i
              · subst h1; simp [hu]
              · by_cases h2 : j < i
                · simp [h1, h2, show j < i + 1 by omega]
                · simp [h1, h2, show ¬ j < i + 1 by omega]⟩
            have OV : Hid (ofF av gap 3 n f r i = if r then av - f i - posO av gap 3 n f i else posO av gap 3 n f i) := rfl
            obtain ⟨⟨y1, y2, y3⟩, y4⟩ := ST.out wo 0 s0
            have z4 := y4 (posO av gap 3 n f i)
            obtain ⟨⟨z1, z2, z3⟩, z5⟩ := ST.out _ _ z4
            have v4 := z5 (av - f i - posO av gap 3 n f i)
            obtain ⟨⟨v1', v2', v3'⟩, v5⟩ := ST.out _ _ v4
            have Z4 := hide z4
            have V4 := hide v4
            clear ST s0 hc B X L EA y4 z4 z5 v4 v5 v1' v2'
            generalize posO av gap 3 n f i = P at *
            generalize ofF av gap 3 n f r i = O at *
            generalize extO av gap 3 n f i = E at *
            generalize hfi : f i = F at *
            clear hfi
            obtain ⟨f1, f2⟩ := hfb
            obtain ⟨x1, x2⟩ := hxb
            obtain ⟨p1, p2⟩ := hpb
            obtain ⟨v1, v2⟩ := HAV.out
            obtain ⟨g1, g2⟩ := HGA.out
            by_cases h0 : i = 0
            · rw [if_pos h0] at hpa
              have h0z : ¬ (0 : Int) < (i : Int) := by omega
              subst hpa
              subst h0
              rw [Nat.add_zero] at y3 z3 v3'
              cases r with
              | false =>
                have ov := OV.out
                simp only [if_true, if_false, Bool.false_eq_true] at ov
                have Q := hide (FIN.out _ _ ov.symm Z4.out)
                clear OV FIN Z4 V4
                go_wp2_with fail
                go_roundg (n - 0)
                case measure => omega
                case rel => exact ⟨0 + 1, _, rfl, by go_num, by omega, by omega, by omega, EN, Q.out.1, Q.out.2.1, Q.out.2.2⟩
              | true =>
                have ov := OV.out
                simp only [if_true, if_false, Bool.false_eq_true] at ov
                have Q := hide (FIN.out _ _ ov.symm V4.out)
                clear OV FIN Z4 V4
                go_wp2_with fail
                go_roundg (n - 0)
                case measure => omega
                case rel => exact ⟨0 + 1, _, rfl, by go_num, by omega, by omega, by omega, EN, Q.out.1, Q.out.2.1, Q.out.2.2⟩
            · rw [if_neg h0] at hpa
              have h0z : (0 : Int) < (i : Int) := by omega
              have wg : IntKind.i64.wrap (gap + E) = gap + E := wr (by omega) (by omega)
              have wp : IntKind.i64.wrap (a + (gap + E)) = P := by rw [hpa]; exact wr (by omega) (by omega)
              clear hpa
              cases r with
              | false =>
                have ov := OV.out
                simp only [if_true, if_false, Bool.false_eq_true] at ov
                have Q := hide (FIN.out _ _ ov.symm Z4.out)
                clear OV FIN Z4 V4
                go_wp2_with fail
                go_roundg (n - i)
                case measure => omega
                case rel => exact ⟨i + 1, _, rfl, by go_num, by omega, by omega, by omega, EN, Q.out.1, Q.out.2.1, Q.out.2.2⟩
              | true =>
                have ov := OV.out
                simp only [if_true, if_false, Bool.false_eq_true] at ov
                have Q := hide (FIN.out _ _ ov.symm V4.out)
                clear OV FIN Z4 V4
                go_wp2_with fail
                go_roundg (n - i)
                case measure => omega
                case rel => exact ⟨i + 1, _, rfl, by go_num, by omega, by omega, by omega, EN, Q.out.1, Q.out.2.1, Q.out.2.2⟩
          · have hltz : ¬ (i : Int) < (n : Int) := by omega
            obtain rfl : n = i := by omega
            have LF : Hid (IRow wo lb n (ofF av gap 3 n f r)) := L.out.congr fun j hj => by simp [hj]
            clear L X EA
            go_wp2_with fail
            go_ret
            exact ⟨lb, rfl, hlb.out.2, LF.out, B.out⟩
      · have X5 : Hid (IRow (w.alloc (.cells (ints n fun _ => 0) 3)) xb n (extO av gap 3 n f)) := NOX.out (fun h => by omega)
        have B5 := hide B4.out
        clear NOX X4 B4
        have HAT : Hid (0 = atO av gap 3 n f 0) := by show _ = at0 3 (freO av gap n f); rw [← EF.out]; simp [at0]
        have hmk2 : ∀ W : World, (Instr.makeSlice 23 (.int .i64 (n : Int)) (.int .i64 (n : Int))).run Try.prog W = .ok (.slice (some ⟨W.heap.size, 0, none⟩) n n) (W.alloc (.cells (ints n (fun _ => 0)) 3)) := make_ints n (by omega)
        have hsz5 : Hid ((w.alloc (.cells (ints n fun _ => 0) 3)).heap.size = (xb + 1)) := by show (w.alloc _).heap.size = xb + 1; rw [World.size_alloc, HXB.out]
        have B6 : Hid (Below w.heap.size w ((w.alloc (.cells (ints n fun _ => 0) 3)).alloc (.cells (ints n fun _ => 0) 3))) := B5.out.alloc B5.out.size _
        have X6 : Hid (IRow ((w.alloc (.cells (ints n fun _ => 0) 3)).alloc (.cells (ints n fun _ => 0) 3)) xb n (extO av gap 3 n f)) := X5.out.alloc _
        have L6 : Hid (IRow ((w.alloc (.cells (ints n fun _ => 0) 3)).alloc (.cells (ints n fun _ => 0) 3)) (xb + 1) n (fun j => if j < 0 then ofF av gap 3 n f r j else 0)) := by
          have := (IRow.new (w.alloc (.cells (ints n fun _ => 0) 3)) n (fun _ => 0)).congr (g := fun j => if j < 0 then ofF av gap 3 n f r j else 0) fun j hj => by simp
          rwa [hsz5.out] at this
        have hlb : Hid (xb ≠ (xb + 1) ∧ w.heap.size ≤ (xb + 1)) := ⟨by have := X5.out.lt; rw [hsz5.out] at this; omega, by have := B5.out.size; rwa [hsz5.out] at this⟩
        skip
        go_wp2_with fail
        rw [← HXB.out]
        clear hmk2 hsz5 B5 X5
        generalize ((w.alloc (.cells (ints n fun _ => 0) 3)).alloc (.cells (ints n fun _ => 0) 3)) = w6 at *
        generalize (xb + 1) = lb at *
        go_loopg [18, 20] (n + 1) (fun g3 va vi wr => ∃ (i : Nat) (a : Int), va = .int .i64 a ∧ vi = .int .i64 (i : Int) ∧ i ≤ n ∧ n - i < g3 ∧ (-209715200 ≤ a ∧ a ≤ 8000000 + i * 4000000) ∧ Hid (a = atO av gap 3 n f i) ∧ Hid (Below w.heap.size w wr) ∧ Hid (IRow wr xb n (extO av gap 3 n f)) ∧ Hid (IRow wr lb n (fun j => if j < i then ofF av gap 3 n f r j else 0)))
        case atStart => exact ⟨0, _, rfl, by go_num, by omega, by omega, by have := at_bd hn HO.out 0 (by omega); rw [← HAT.out] at this; omega, HAT, B6, X6, L6⟩
        case round =>
          clear B6 X6 L6
          obtain ⟨wo, rfl⟩ : ∃ wo : World, wo = wr := ⟨_, rfl⟩
          obtain ⟨i, a, rfl, rfl, hi, hg3, ⟨a1, a2⟩, EA, B, X, L⟩ := hrel
          by_cases hlt : i < n
          · have hltz : (i : Int) < (n : Int) := by omega
            have hi0 : (0 : Int) ≤ (i : Int) := by omega
            obtain ⟨b, off, rfl, hbw, hc⟩ := reads_at HF.out B.out hlt
            have cx := X.out.cell hlt
            have hfb := HO.out.2.2.2 i hlt
            have hxb := ext_bd hn HO.out hlt
            have hpb := pos_bd hn HO.out i hlt
            have hpa := pos_at av gap 3 n f i
            rw [← EA.out] at hpa
            have EN : Hid (posO av gap 3 n f i + f i = atO av gap 3 n f (i + 1)) := rfl
            have ST : Hid (∀ W u, (Below w.heap.size w W ∧ IRow W xb n (extO av gap 3 n f) ∧ IRow W lb n (fun j => if j = i then u else if j < i then ofF av gap 3 n f r j else 0)) → (W.cell? ⟨lb, i, none⟩ = some (.int .i64 u) ∧ W.frozen? ⟨lb, i, none⟩ = false ∧ W.cell? ⟨b, off + i, none⟩ = some (.int .i64 (f i))) ∧ ∀ v, (Below w.heap.size w (W.setCell ⟨lb, i, none⟩ (.int .i64 v)) ∧ IRow (W.setCell ⟨lb, i, none⟩ (.int .i64 v)) xb n (extO av gap 3 n f) ∧ IRow (W.setCell ⟨lb, i, none⟩ (.int .i64 v)) lb n (fun j => if j = i then v else if j < i then ofF av gap 3 n f r j else 0))) := fun W u ⟨s1, s2, s3⟩ => by
              have q := s3.cell hlt
              simp only [if_true] at q
              refine ⟨⟨q, s3.frozen i, ?_⟩, fun v => ⟨s1.setCell (by show w.heap.size ≤ lb; exact hlb.out.2) _, s2.far (by show xb ≠ lb; exact hlb.out.1) _, (s3.set_ i v).congr fun j hj => ?_⟩⟩
              · obtain ⟨b', off', e', _, hc'⟩ := reads_at HF.out s1 hlt
                simp only [Option.some.injEq, Addr.mk.injEq, and_true] at e'
                obtain ⟨rfl, rfl⟩ := e'
                exact hc'
              · by_cases h1 : j = i
                · simp [h1]
                · simp [h1]
            have s0 : Below w.heap.size w wo ∧ IRow wo xb n (extO av gap 3 n f) ∧ IRow wo lb n (fun j => if j = i then 0 else if j < i then ofF av gap 3 n f r j else 0) := ⟨B.out, X.out, L.out.congr fun j hj => by
              by_cases h1 : j = i
              · simp [h1]
              · simp [h1]⟩
            have FIN : Hid (∀ W u, u = ofF av gap 3 n f r i → (Below w.heap.size w W ∧ IRow W xb n (extO av gap 3 n f) ∧ IRow W lb n (fun j => if j = i then u else if j < i then ofF av gap 3 n f r j else 0)) → Hid (Below w.heap.size w W) ∧ Hid (IRow W xb n (extO av gap 3 n f)) ∧ Hid (IRow W lb n (fun j => if j < i + 1 then ofF av gap 3 n f r j else 0))) := fun W u hu ⟨s1, s2, s3⟩ => ⟨s1, s2, s3.congr fun j hj => by
              by_cases h1 : j = i
              · subst h1; simp [hu]
              · by_cases h2 : j < i
                · simp [h1, h2, show j < i + 1 by omega]
                · simp [h1, h2, show ¬ j < i + 1 by omega]⟩
            have OV : Hid (ofF av gap 3 n f r i = if r then av - f i - posO av gap 3 n f i else posO av gap 3 n f i) := rfl
            obtain ⟨⟨y1, y2, y3⟩, y4⟩ := ST.out wo 0 s0
            have z4 := y4 (posO av gap 3 n f i)
            obtain ⟨⟨z1, z2, z3⟩, z5⟩ := ST.out _ _ z4
            have v4 := z5 (av - f i - posO av gap 3 n f i)
            obtain ⟨⟨v1', v2', v3'⟩, v5⟩ := ST.out _ _ v4
            have Z4 := hide z4
            have V4 := hide v4
            clear ST s0 hc B X L EA y4 z4 z5 v4 v5 v1' v2'
            generalize posO av gap 3 n f i = P at *
            generalize ofF av gap 3 n f r i = O at *
            generalize extO av gap 3 n f i = E at *
            generalize hfi : f i = F at *
            clear hfi
            obtain ⟨f1, f2⟩ := hfb
            obtain ⟨x1, x2⟩ := hxb
            obtain ⟨p1, p2⟩ := hpb
            obtain ⟨v1, v2⟩ := HAV.out
            obtain ⟨g1, g2⟩ := HGA.out
            by_cases h0 : i = 0
            · rw [if_pos h0] at hpa
              have h0z : ¬ (0 : Int) < (i : Int) := by omega
              subst hpa
              subst h0
              rw [Nat.add_zero] at y3 z3 v3'
              cases r with
              | false =>
                have ov := OV.out
                simp only [if_true, if_false, Bool.false_eq_true] at ov
                have Q := hide (FIN.out _ _ ov.symm Z4.out)
                clear OV FIN Z4 V4
                go_wp2_with fail
                go_roundg (n - 0)
                case measure => omega
                case rel => exact ⟨0 + 1, _, rfl, by go_num, by omega, by omega, by omega, EN, Q.out.1, Q.out.2.1, Q.out.2.2⟩
              | true =>
                have ov := OV.out
                simp only [if_true, if_false, Bool.false_eq_true] at ov
                have Q := hide (FIN.out _ _ ov.symm V4.out)
                clear OV FIN Z4 V4
                go_wp2_with fail
                go_roundg (n - 0)
                case measure => omega
                case rel => exact ⟨0 + 1, _, rfl, by go_num, by omega, by omega, by omega, EN, Q.out.1, Q.out.2.1, Q.out.2.2⟩
            · exact absurd h0 (by omega)
          · have hltz : ¬ (i : Int) < (n : Int) := by omega
            obtain rfl : n = i := by omega
            have LF : Hid (IRow wo lb n (ofF av gap 3 n f r)) := L.out.congr fun j hj => by simp [hj]
            clear L X EA
            go_wp2_with fail
            go_ret
            exact ⟨lb, rfl, hlb.out.2, LF.out, B.out⟩
      · obtain ⟨m, hm⟩ : ∃ m : Nat, (n : Int) - 1 = (m : Int) := ⟨n - 1, by omega⟩
        have hmn : n = m + 1 := by omega
        have hm1 : 1 ≤ m := by omega
        have bfr := fre_bdO hn HO.out (Nat.le_refl n)
        rw [← EF.out] at bfr
        have hmk : ∀ W : World, (Instr.makeSlice 23 (.int .i64 (n : Int)) (.int .i64 (n : Int))).run Try.prog W = .ok (.slice (some ⟨W.heap.size, 0, none⟩) n n) (W.alloc (.cells (ints n (fun _ => 0)) 3)) := make_ints n (by omega)
        have hmk3 : ∀ W : World, (Instr.makeSlice 23 (.int .i64 (m : Int)) (.int .i64 (m : Int))).run Try.prog W = .ok (.slice (some ⟨W.heap.size, 0, none⟩) m m) (W.alloc (.cells (ints m (fun _ => 0)) 3)) := make_ints m (by omega)
        have B7 : Hid (Below w.heap.size w ((w.alloc (.cells (ints n fun _ => 0) 3)).alloc (.cells (ints m fun _ => 0) 3))) := B4.out.alloc B4.out.size _
        have X7 : Hid (IRow ((w.alloc (.cells (ints n fun _ => 0) 3)).alloc (.cells (ints m fun _ => 0) 3)) xb n (fun _ => 0)) := X4.alloc _
        have W7 : Hid (IRow ((w.alloc (.cells (ints n fun _ => 0) 3)).alloc (.cells (ints m fun _ => 0) 3)) (xb + 1) m (fun j => if j < 0 then 1 else 0)) := by
          have := (IRow.new (w.alloc (.cells (ints n fun _ => 0) 3)) m (fun _ => 0)).congr (g := fun j => if j < 0 then 1 else 0) fun j hj => by simp
          rw [World.size_alloc, ← HXB.out] at this
          exact this
        have HNM := hide hmn
        clear NOX X4 B4 hmn
        go_wp2_with fail
        rw [← HXB.out]
        clear hmk hmk3
        generalize ((w.alloc (.cells (ints n fun _ => 0) 3)).alloc (.cells (ints m fun _ => 0) 3)) = w7 at *
        go_loopg [15] (m + 1) (fun g3 vi wr => ∃ (i : Nat), vi = .int .i64 (i : Int) ∧ i ≤ m ∧ m - i < g3 ∧ Hid (Below w.heap.size w wr) ∧ Hid (IRow wr xb n (fun _ => 0)) ∧ Hid (IRow wr (xb + 1) m (fun j => if j < i then 1 else 0)))
        case atStart => exact ⟨0, by go_num, by omega, by omega, B7, X7, W7⟩
        case round =>
          clear B7 X7 W7
          obtain ⟨wo, rfl⟩ : ∃ wo : World, wo = wr := ⟨_, rfl⟩
          obtain ⟨i, rfl, hi, hg3, B, X, L⟩ := hrel
          by_cases hlt : i < m
          · have hltz : (i : Int) < (m : Int) := by omega
            have hi0 : (0 : Int) ≤ (i : Int) := by omega
            have cl := L.out.cell hlt
            simp only [Nat.lt_irrefl, if_false] at cl
            have fl := L.out.frozen i
            have B2 : Hid (Below w.heap.size w (wo.setCell ⟨xb + 1, i, none⟩ (.int .i64 1))) := B.out.setCell (by show w.heap.size ≤ xb + 1; have := HXB.out; omega) _
            have X2 : Hid (IRow (wo.setCell ⟨xb + 1, i, none⟩ (.int .i64 1)) xb n (fun _ => 0)) := X.out.far (by show xb ≠ xb + 1; omega) _
            have L2 : Hid (IRow (wo.setCell ⟨xb + 1, i, none⟩ (.int .i64 1)) (xb + 1) m (fun j => if j < i + 1 then 1 else 0)) := (L.out.set_ i 1).congr fun j hj => by
              by_cases h1 : j = i
              · subst h1; simp
              · by_cases h2 : j < i
                · simp [h1, h2, show j < i + 1 by omega]
                · simp [h1, h2, show ¬ j < i + 1 by omega]
            clear B X L
            go_wp2_with fail
            go_roundg (m - i)
            case measure => omega
            case rel => exact ⟨i + 1, by go_num, by omega, by omega, B2, X2, L2⟩
          · have hltz : ¬ (i : Int) < (m : Int) := by omega
            obtain rfl : m = i := by omega
            have OW : IRow wo (xb + 1) m ones := L.out.congr fun j hj => by simp [hj, ones]
            have RS := hide (rshare_ok fr (some ⟨xb + 1, 0, none⟩) m m ones wo OW.reads ⟨by omega, by omega, by omega, ones_good m⟩)
            have XL := hide X.out.lt
            clear L hg3 hi
            go_wp2_with fail
            refine RS.out.mono ?_
            rintro e w8 ⟨rfl, k1, P, k3, k4⟩
            have B8 : Hid (Below w.heap.size w w8) := B.out.trans (k1.mono B.out.size)
            have X8 : IRow w8 xb n (fun _ => 0) := X.out.below k1 X.out.lt
            have PE : Hid (∀ j, j < m → P j = extO av gap 3 n f (j + 1)) := fun j hj => by
              show P j = _
              unfold extO
              rw [if_pos ⟨rfl, by rw [← EF.out]; exact h3, by have := HNM.out; omega, by omega⟩, ← EF.out, show n - 1 = m by have := HNM.out; omega, Nat.add_sub_cancel]
              exact shr_of k3 hj
            have K4 := hide k4
            have XX := hide X8
            clear k1 k3 k4 X8 B X RS OW
            have hgx : Hid (w8.heap[xb]? = some (.cells (ints n (fun _ => 0)).toList.toArray 3 (0, 0))) := by
              show _ = _
              rw [Array.toArray_toList]; exact XX.out
            have hinf : (Try.prog.info? 3).map (·.size) = some 1 := by kernel_rfl
            have hcs := vals_len m P
            have hxl : w.heap.size ≤ xb := Nat.le_of_eq HXB.out.symm
            have EXT : Hid (∀ W, W.heap[xb]? = some (.cells (splice (ints n (fun _ => 0)).toList 1 (vals m P)).toArray 3 (0, 0)) → IRow W xb n (extO av gap 3 n f)) := fun W hW => by
              rw [splice_ext HNM.out (by simp [extO]) PE.out] at hW
              exact hW
            go_wp2_with (refine wpList_copy_splice rfl _ _ 23 23 rfl 3 Try.underlying23 hinf (some ⟨xb, 1, none⟩) (some ⟨wo.heap.size, 0, none⟩) (n - 1) (n - 1) m m rfl rfl xb 1 (ints n (fun _ => 0)).toList 3 hgx.out (vals m P) ?k1 ?k2 ?k3 ?k4 w.heap.size w B8.out hxl ?_)
            case k1 => rw [hcs]; have := HNM.out; simp [Nat.min_def]; omega
            case k2 =>
              have hk : ∀ j v, (vals m P)[j]? = some v → w8.cell? ⟨wo.heap.size, j, none⟩ = some v := fun j v hv => by
                have hj : j < m := by
                  rcases Nat.lt_or_ge j m with h | h
                  · exact h
                  · rw [List.getElem?_eq_none (by rw [hcs]; exact h)] at hv; cases hv
                rw [vals_get P hj] at hv
                cases hv
                exact K4.out.cell hj
              first
                | exact hk
                | exact fun _ => hk
                | exact fun _ => ⟨rfl, _, rfl, fun j v hv => by rw [addr_add0]; exact hk j v hv⟩
            case k3 => rw [hcs]; have := HNM.out; simp; omega
            case k4 => intro v hv; obtain ⟨i, hi, rfl⟩ := List.mem_map.1 hv; rfl
            · intro w9 H9 BB
              have X5 := hide (EXT.out w9 H9.out)
              have B5 := hide BB
              obtain ⟨lb0, hlb0⟩ : ∃ lb0, w9.heap.size = lb0 := ⟨_, rfl⟩
              have HAT : Hid (0 = atO av gap 3 n f 0) := by show _ = at0 3 (freO av gap n f); simp [at0]
              clear H9 BB EXT K4 XX B8 PE hgx hm hltz
              have hmk2 : ∀ W : World, (Instr.makeSlice 23 (.int .i64 (n : Int)) (.int .i64 (n : Int))).run Try.prog W = .ok (.slice (some ⟨W.heap.size, 0, none⟩) n n) (W.alloc (.cells (ints n (fun _ => 0)) 3)) := make_ints n (by omega)
              have hsz5 : Hid (w9.heap.size = lb0) := hide hlb0
              have B6 : Hid (Below w.heap.size w (w9.alloc (.cells (ints n fun _ => 0) 3))) := B5.out.alloc B5.out.size _
              have X6 : Hid (IRow (w9.alloc (.cells (ints n fun _ => 0) 3)) xb n (extO av gap 3 n f)) := X5.out.alloc _
              have L6 : Hid (IRow (w9.alloc (.cells (ints n fun _ => 0) 3)) lb0 n (fun j => if j < 0 then ofF av gap 3 n f r j else 0)) := by
                have := (IRow.new w9 n (fun _ => 0)).congr (g := fun j => if j < 0 then ofF av gap 3 n f r j else 0) fun j hj => by simp
                rwa [hsz5.out] at this
              have hlb : Hid (xb ≠ lb0 ∧ w.heap.size ≤ lb0) := ⟨by have := X5.out.lt; rw [hsz5.out] at this; omega, by have := B5.out.size; rwa [hsz5.out] at this⟩
              skip
              go_wp2_with fail
              try rw [hlb0]
              clear hmk2 hsz5 B5 X5
              generalize (w9.alloc (.cells (ints n fun _ => 0) 3)) = w6 at *
              generalize lb0 = lb at *
              go_loopg [18, 20] (n + 1) (fun g3 va vi wr => ∃ (i : Nat) (a : Int), va = .int .i64 a ∧ vi = .int .i64 (i : Int) ∧ i ≤ n ∧ n - i < g3 ∧ (-209715200 ≤ a ∧ a ≤ 8000000 + i * 4000000) ∧ Hid (a = atO av gap 3 n f i) ∧ Hid (Below w.heap.size w wr) ∧ Hid (IRow wr xb n (extO av gap 3 n f)) ∧ Hid (IRow wr lb n (fun j => if j < i then ofF av gap 3 n f r j else 0)))
              case atStart => exact ⟨0, _, rfl, by go_num, by omega, by omega, by have := at_bd hn HO.out 0 (by omega); rw [← HAT.out] at this; omega, HAT, B6, X6, L6⟩
              case round =>
                clear B6 X6 L6
                obtain ⟨wo, rfl⟩ : ∃ wo : World, wo = wr := ⟨_, rfl⟩
                obtain ⟨i, a, rfl, rfl, hi, hg3, ⟨a1, a2⟩, EA, B, X, L⟩ := hrel
                by_cases hlt : i < n
                · have hltz : (i : Int) < (n : Int) := by omega
                  have hi0 : (0 : Int) ≤ (i : Int) := by omega
                  obtain ⟨b, off, rfl, hbw, hc⟩ := reads_at HF.out B.out hlt
                  have cx := X.out.cell hlt
                  have hfb := HO.out.2.2.2 i hlt
                  have hxb := ext_bd hn HO.out hlt
                  have hpb := pos_bd hn HO.out i hlt
                  have hpa := pos_at av gap 3 n f i
                  rw [← EA.out] at hpa
                  have EN : Hid (posO av gap 3 n f i + f i = atO av gap 3 n f (i + 1)) := rfl
                  have ST : Hid (∀ W u, (Below w.heap.size w W ∧ IRow W xb n (extO av gap 3 n f) ∧ IRow W lb n (fun j => if j = i then u else if j < i then ofF av gap 3 n f r j else 0)) → (W.cell? ⟨lb, i, none⟩ = some (.int .i64 u) ∧ W.frozen? ⟨lb, i, none⟩ = false ∧ W.cell? ⟨b, off + i, none⟩ = some (.int .i64 (f i))) ∧ ∀ v, (Below w.heap.size w (W.setCell ⟨lb, i, none⟩ (.int .i64 v)) ∧ IRow (W.setCell ⟨lb, i, none⟩ (.int .i64 v)) xb n (extO av gap 3 n f) ∧ IRow (W.setCell ⟨lb, i, none⟩ (.int .i64 v)) lb n (fun j => if j = i then v else if j < i then ofF av gap 3 n f r j else 0))) := fun W u ⟨s1, s2, s3⟩ => by
                    have q := s3.cell hlt
                    simp only [if_true] at q
                    refine ⟨⟨q, s3.frozen i, ?_⟩, fun v => ⟨s1.setCell (by show w.heap.size ≤ lb; exact hlb.out.2) _, s2.far (by show xb ≠ lb; exact hlb.out.1) _, (s3.set_ i v).congr fun j hj => ?_⟩⟩
                    · obtain ⟨b', off', e', _, hc'⟩ := reads_at HF.out s1 hlt
                      simp only [Option.some.injEq, Addr.mk.injEq, and_true] at e'
                      obtain ⟨rfl, rfl⟩ := e'
                      exact hc'
                    · by_cases h1 : j = i
                      · simp [h1]
                      · simp [h1]
                  have s0 : Below w.heap.size w wo ∧ IRow wo xb n (extO av gap 3 n f) ∧ IRow wo lb n (fun j => if j = i then 0 else if j < i then ofF av gap 3 n f r j else 0) := ⟨B.out, X.out, L.out.congr fun j hj => by
                    by_cases h1 : j = i
                    · simp [h1]
                    · simp [h1]⟩
                  have FIN : Hid (∀ W u, u = ofF av gap 3 n f r i → (Below w.heap.size w W ∧ IRow W xb n (extO av gap 3 n f) ∧ IRow W lb n (fun j => if j = i then u else if j < i then ofF av gap 3 n f r j else 0)) → Hid (Below w.heap.size w W) ∧ Hid (IRow W xb n (extO av gap 3 n f)) ∧ Hid (IRow W lb n (fun j => if j < i + 1 then ofF av gap 3 n f r j else 0))) := fun W u hu ⟨s1, s2, s3⟩ => ⟨s1, s2, s3.congr fun j hj => by
                    by_cases h1 : j = i
                    · subst h1; simp [hu]
                    · by_cases h2 : j < i
                      · simp [h1, h2, show j < i + 1 by omega]
                      · simp [h1, h2, show ¬ j < i + 1 by omega]⟩
                  have OV : Hid (ofF av gap 3 n f r i = if r then av - f i - posO av gap 3 n f i else posO av gap 3 n f i) := rfl
                  obtain ⟨⟨y1, y2, y3⟩, y4⟩ := ST.out wo 0 s0
                  have z4 := y4 (posO av gap 3 n f i)
                  obtain ⟨⟨z1, z2, z3⟩, z5⟩ := ST.out _ _ z4
                  have v4 := z5 (av - f i - posO av gap 3 n f i)
                  obtain ⟨⟨v1', v2', v3'⟩, v5⟩ := ST.out _ _ v4
                  have Z4 := hide z4
                  have V4 := hide v4
                  clear ST s0 hc B X L EA y4 z4 z5 v4 v5 v1' v2'
                  generalize posO av gap 3 n f i = P at *
                  generalize ofF av gap 3 n f r i = O at *
                  generalize extO av gap 3 n f i = E at *
                  generalize hfi : f i = F at *
                  clear hfi
                  obtain ⟨f1, f2⟩ := hfb
                  obtain ⟨x1, x2⟩ := hxb
                  obtain ⟨p1, p2⟩ := hpb
                  obtain ⟨v1, v2⟩ := HAV.out
                  obtain ⟨g1, g2⟩ := HGA.out
                  by_cases h0 : i = 0
                  · rw [if_pos h0] at hpa
                    have h0z : ¬ (0 : Int) < (i : Int) := by omega
                    subst hpa
                    subst h0
                    rw [Nat.add_zero] at y3 z3 v3'
                    cases r with
                    | false =>
                      have ov := OV.out
                      simp only [if_true, if_false, Bool.false_eq_true] at ov
                      have Q := hide (FIN.out _ _ ov.symm Z4.out)
                      clear OV FIN Z4 V4
                      go_wp2_with fail
                      go_roundg (n - 0)
                      case measure => omega
                      case rel => exact ⟨0 + 1, _, rfl, by go_num, by omega, by omega, by omega, EN, Q.out.1, Q.out.2.1, Q.out.2.2⟩
                    | true =>
                      have ov := OV.out
                      simp only [if_true, if_false, Bool.false_eq_true] at ov
                      have Q := hide (FIN.out _ _ ov.symm V4.out)
                      clear OV FIN Z4 V4
                      go_wp2_with fail
                      go_roundg (n - 0)
                      case measure => omega
                      case rel => exact ⟨0 + 1, _, rfl, by go_num, by omega, by omega, by omega, EN, Q.out.1, Q.out.2.1, Q.out.2.2⟩
                  · rw [if_neg h0] at hpa
                    have h0z : (0 : Int) < (i : Int) := by omega
                    have wg : IntKind.i64.wrap (gap + E) = gap + E := wr (by omega) (by omega)
                    have wp : IntKind.i64.wrap (a + (gap + E)) = P := by rw [hpa]; exact wr (by omega) (by omega)
                    clear hpa
                    cases r with
                    | false =>
                      have ov := OV.out
                      simp only [if_true, if_false, Bool.false_eq_true] at ov
                      have Q := hide (FIN.out _ _ ov.symm Z4.out)
                      clear OV FIN Z4 V4
                      go_wp2_with fail
                      go_roundg (n - i)
                      case measure => omega
                      case rel => exact ⟨i + 1, _, rfl, by go_num, by omega, by omega, by omega, EN, Q.out.1, Q.out.2.1, Q.out.2.2⟩
                    | true =>
                      have ov := OV.out
                      simp only [if_true, if_false, Bool.false_eq_true] at ov
                      have Q := hide (FIN.out _ _ ov.symm V4.out)
                      clear OV FIN Z4 V4
                      go_wp2_with fail
                      go_roundg (n - i)
                      case measure => omega
                      case rel => exact ⟨i + 1, _, rfl, by go_num, by omega, by omega, by omega, EN, Q.out.1, Q.out.2.1, Q.out.2.2⟩
                · have hltz : ¬ (i : Int) < (n : Int) := by omega
                  obtain rfl : n = i := by omega
                  have LF : Hid (IRow wo lb n (ofF av gap 3 n f r)) := L.out.congr fun j hj => by simp [hj]
                  clear L X EA
                  go_wp2_with fail
                  go_ret
                  exact ⟨lb, rfl, hlb.out.2, LF.out, B.out⟩
end Go.Proofs.Ytjaapdkhjgolfaa
