/- What spread of the reference of package grid adds to the sizes of an item's tracks; all numbers in range. -/
import Derived.Test.YtdoenkngmgclmaaGdR1
import Derived.Test.YtdoenkngmgclmaaMixJ
import Derived.BigQuiet
namespace Go.Proofs.Ytdoenkngmgclmaa
open Go.RowKit Go.Sort
set_option linter.unusedVariables false
set_option linter.unusedSimpArgs false

/-- All old blocks but one are as they were. -/
structure Kept (sb : Nat) (w w' : World) : Prop where
  os : w'.os = w.os
  tape : w'.tape = w.tape
  output : w'.output = w.output
  size : w.heap.size ≤ w'.heap.size
  block : ∀ k, k < w.heap.size → k ≠ sb → w'.heap[k]? = w.heap[k]?
section
variable {sb b n : Nat} {w w' w'' : World} {f : Nat → Int}
theorem Kept.refl (sb : Nat) (w : World) : Kept sb w w := ⟨rfl, rfl, rfl, Nat.le_refl _, fun _ _ _ => rfl⟩
theorem Kept.of (h : Below w.heap.size w w') : Kept sb w w' := ⟨h.os, h.tape, h.output, h.size, fun k hk _ => h.block k hk⟩
theorem Kept.trans (h : Kept sb w w') (k : Kept sb w' w'') : Kept sb w w'' := ⟨k.os.trans h.os, k.tape.trans h.tape, k.output.trans h.output, Nat.le_trans h.size k.size, fun i hi hn => (k.block i (Nat.lt_of_lt_of_le hi h.size) hn).trans (h.block i hi hn)⟩
theorem Kept.then (h : Kept sb w w') (k : Below w'.heap.size w' w'') : Kept sb w w'' := h.trans (Kept.of k)
theorem Kept.below {B : Nat} (h : Kept sb w w') (h1 : B ≤ sb) (h2 : B ≤ w.heap.size) : Below B w w' := ⟨h.os, h.tape, h.output, h.size, fun k hk => h.block k (by omega) (by omega)⟩
theorem Kept.set (h : Kept sb w w') (i : Nat) (v : Value) : Kept sb w (w'.setCell ⟨sb, i, none⟩ v) :=
  ⟨h.os, h.tape, h.output, by rw [show (w'.setCell ⟨sb, i, none⟩ v).heap.size = w'.heap.size by simp [World.setCell]]; exact h.size, fun k hk hn => (heap_setCell_other w' ⟨sb, i, none⟩ k v hn).trans (h.block k hk hn)⟩
theorem IRow.kept (h : IRow w b n f) (hk : Kept sb w w') (hn : b ≠ sb) : IRow w' b n f := (hk.block b h.lt hn).trans h
theorem Blk.kept {T : TypeId} {vs : List Value} (h : Blk w b T vs) (hk : Kept sb w w') (hn : b ≠ sb) : Blk w' b T vs := (hk.block b h.lt hn).trans h
theorem Kept.drewN (h : Kept sb w w') (k : Nat) : Kept sb w (w'.drewN k) := ⟨h.os, h.tape, h.output, h.size, h.block⟩
end
theorem rk_same {z : Nat → Bool} {a : Nat} : ∀ {b : Nat}, a ≤ b → (∀ i, a ≤ i → i < b → z i = true) → rk z b = rk z a
  | 0, h, _ => by rw [Nat.le_zero.mp h]
  | b + 1, h, hz => by
    rcases Nat.lt_or_ge b a with h1 | h1
    · rw [show a = b + 1 by omega]
    · simp only [rk, hz b h1 (by omega), if_true, Nat.add_zero]
      exact rk_same h1 fun i h2 h3 => hz i h2 (by omega)
abbrev itU (x : It) : Value := .agg #[.int .i64 x.at_, .int .i64 x.sp, .int .i64 x.mn, .int .i64 x.mx]
def dJ (gap want : Int) (a : Nat) (s : Nat → Int) (j : Nat) : Int := want - sumF (fun j => s (a + j)) j - gap * (if j = 0 then 0 else (j : Int) - 1)
theorem dJ_zero (gap want : Int) (a : Nat) (s : Nat → Int) : dJ gap want a s 0 = want := by simp [dJ, sumF]
theorem dJ_first (gap want : Int) (a : Nat) (s : Nat → Int) : dJ gap want a s (0 + 1) = dJ gap want a s 0 - s (a + 0) := by simp [dJ, sumF]
theorem dJ_next (gap want : Int) (a : Nat) (s : Nat → Int) {j : Nat} (h : 0 < j) : dJ gap want a s (j + 1) = dJ gap want a s j - s (a + j) - gap := by
  unfold dJ
  rw [if_neg (by omega), if_neg (by omega)]
  simp only [sumF]
  rw [show ((j + 1 : Nat) : Int) - 1 = ((j : Int) - 1) + 1 by omega, Int.mul_add]
  omega
theorem dJ_bd {gap want : Int} {a n : Nat} {s : Nat → Int} (hg : 0 ≤ gap ∧ gap ≤ 1048576) (hw : 0 ≤ want ∧ want ≤ 1048576) (hs : ∀ i, i < n → 0 ≤ s i ∧ s i ≤ 134217728) {j : Nat} (hj : a + j ≤ n) (hn : n ≤ 24) : -4294967296 ≤ dJ gap want a s j ∧ dJ gap want a s j ≤ 1048576 := by
  have b := sumF_bound (f := fun j => s (a + j)) (B := 134217728) j fun k hk => hs _ (by omega)
  unfold dJ
  split
  · omega
  · have c := Int.mul_nonneg hg.1 (show 0 ≤ (j : Int) - 1 by omega)
    have d := Int.mul_le_mul hg.2 (show (j : Int) - 1 ≤ 24 by omega) (by omega) (by omega)
    omega
def st1k (A0 A1 : World → Prop) : List Value → World → Prop
  | [], W => A0 W
  | _ :: _, W => A1 W
set_option maxHeartbeats 16000000 in
set_option maxRecDepth 100000 in
theorem rspr_any (gap want : Int) (p : Option Addr) (n c : Nat) (t : Nat → Tk) (x : It) (sb : Nat) (s : Nat → Int) (w0 w : World) (hp : SRow w0 p n 2 (trC t)) (hB : Below w0.heap.size w0 w) (hsb : w0.heap.size ≤ sb) (hs : IRow w sb n s) (hn : n ≤ 24) (ht : ∀ i, i < n → okT (t i)) (hx : okI n x) (hg : 0 ≤ gap ∧ gap ≤ 1048576) (hw : 0 ≤ want ∧ want ≤ 1048576) (hs0 : ∀ i, i < n → 0 ≤ s i ∧ s i ≤ 134217728) :
    Calls Try.prog 51 #[.int .i64 gap, .slice p n c, itU x, .int .i64 want, .slice (some ⟨sb, 0, none⟩) n n] w fun e w' => e = .returned (.tuple #[]) ∧ IRow w' sb n (sprG t gap want x n s) ∧ Kept sb w w' := by
  obtain ⟨ea, ep, hap, hp1⟩ := aG_eq hx
  have HP := hide hp
  have HT := hide ht
  have HS0 := hide hs0
  have ED : Hid (dG gap want x s = dJ gap want (aG x) s (pG x)) := by show _ = _; unfold dG dJ; rw [if_neg (by omega)]
  have DB : Hid (∀ j, aG x + j ≤ n → -4294967296 ≤ dJ gap want (aG x) s j ∧ dJ gap want (aG x) s j ≤ 1048576) := fun j hj => dJ_bd hg hw hs0 hj hn
  have SPN : Hid (¬ (0 < dJ gap want (aG x) s (pG x) ∧ 0 ≤ kdG t (aG x) (pG x)) → ∀ i, sprG t gap want x n s i = s i) := fun h i => by
    unfold sprG
    rw [ED.out, if_neg (fun hh => h ⟨hh.1, hh.2.1⟩)]
  have SPZ : Hid (∀ i, zG t x (kdG t (aG x) (pG x)) i = true → sprG t gap want x n s i = s i) := fun i h => by
    unfold sprG
    rw [if_neg (fun hh => by rw [h] at hh; exact Bool.noConfusion hh.2.2)]
  have SPY : Hid (∀ i, 0 < dJ gap want (aG x) s (pG x) → 0 ≤ kdG t (aG x) (pG x) → zG t x (kdG t (aG x) (pG x)) i = false → sprG t gap want x n s i = s i + shr (dJ gap want (aG x) s (pG x)) ones (rk (zG t x (kdG t (aG x) (pG x))) n) (rk (zG t x (kdG t (aG x) (pG x))) i)) := fun i h1 h2 h3 => by
    unfold sprG
    rw [ED.out, if_pos ⟨h1, h2, h3⟩]
  have ZIN : Hid (∀ kd j, j < pG x → zG t x kd (aG x + j) = !decide ((t (aG x + j)).kd = kd)) := fun kd j hj => by
    unfold zG
    rw [decide_eq_true (show aG x ≤ aG x + j by omega), decide_eq_true (show aG x + j < aG x + pG x by omega), Bool.true_and, Bool.true_and]
  have ZOUT : Hid (∀ kd i, i < aG x ∨ aG x + pG x ≤ i → zG t x kd i = true) := fun kd i h => by
    unfold zG
    rcases h with h | h
    · rw [decide_eq_false (show ¬ aG x ≤ i by omega)]; rfl
    · rw [decide_eq_false (show ¬ i < aG x + pG x by omega), Bool.and_false]; rfl
  have KS : Hid (∀ j, kdG t (aG x) (j + 1) = if (t (aG x + j)).kd = 2 ∨ ((t (aG x + j)).kd = 1 ∧ kdG t (aG x) j < 0) then (t (aG x + j)).kd else kdG t (aG x) j) := fun j => rfl
  have KC : Hid (∀ j, kdG t (aG x) j = -1 ∨ kdG t (aG x) j = 1 ∨ kdG t (aG x) j = 2) := fun j => kdG_cases t (aG x) j
  have K0 : Hid (kdG t (aG x) 0 = -1) := rfl
  have FBK : Hid (Blk (w.alloc (.cells #[.int .i64 (aG x : Int), .int .i64 (pG x : Int), .int .i64 x.mn, .int .i64 x.mx] 44)) w.heap.size 44 [.int .i64 (aG x : Int), .int .i64 (pG x : Int), .int .i64 x.mn, .int .i64 x.mx]) := Blk.new rfl
  have S1 : Hid (IRow (w.alloc (.cells #[.int .i64 (aG x : Int), .int .i64 (pG x : Int), .int .i64 x.mn, .int .i64 x.mx] 44)) sb n s) := hs.alloc _
  have B1 : Hid (Below w0.heap.size w0 (w.alloc (.cells #[.int .i64 (aG x : Int), .int .i64 (pG x : Int), .int .i64 x.mn, .int .i64 x.mx] 44))) := hB.alloc hB.size _
  have BW : Hid (Below w.heap.size w (w.alloc (.cells #[.int .i64 (aG x : Int), .int .i64 (pG x : Int), .int .i64 x.mn, .int .i64 x.mx] 44))) := (Below.refl _ _).alloc (Nat.le_refl _) _
  have KW : Hid (Kept sb w (w.alloc (.cells #[.int .i64 (aG x : Int), .int .i64 (pG x : Int), .int .i64 x.mn, .int .i64 x.mx] 44))) := Kept.of BW.out
  have NX : Hid (w.heap.size ≠ sb) := Nat.ne_of_gt hs.lt
  have hsb2 := hide hsb
  unfold itU
  rw [← ea, ← ep]
  generalize sprG t gap want x n s = spr at *
  generalize hzz : zG t x = zz at *
  clear hzz
  generalize aG x = a at *
  generalize pG x = pp at *
  generalize x.mn = xmn at *
  generalize x.mx = xmx at *
  obtain ⟨hg1, hg2⟩ := hg
  obtain ⟨hw1, hw2⟩ := hw
  clear hp ht hs0 hx ED hs hB ea ep hsb x
  go_enter Try.func51, Try.ntmps51
  go_wp2_with fail
  generalize w.alloc (.cells #[.int .i64 (a : Int), .int .i64 (pp : Int), .int .i64 xmn, .int .i64 xmx] 44) = w1 at *
  clear BW
  generalize w.heap.size = xb at *
  have f0 : w1.cell? ⟨xb, 0, none⟩ = some (.int .i64 (a : Int)) := FBK.out.cell 0 rfl
  have f1 : w1.cell? ⟨xb, 1, none⟩ = some (.int .i64 (pp : Int)) := FBK.out.cell 1 rfl
  go_wp2_with fail
  go_loopg [10, 11, 12] (pp + 1) (fun g1 vd vk vi wr => ∃ (j : Nat) (dd kk : Int), vd = .int .i64 dd ∧ vk = .int .i64 kk ∧ vi = .int .i64 ((a + j : Nat) : Int) ∧ j ≤ pp ∧ pp - j < g1 ∧ Hid (dd = dJ gap want a s j) ∧ Hid (kk = kdG t a j) ∧ w1 = wr)
  case atStart => exact ⟨0, want, -1, rfl, rfl, by go_num, by omega, by omega, (dJ_zero _ _ _ _).symm, K0.out.symm, rfl⟩
  case round =>
    obtain ⟨wo, rfl⟩ : ∃ wo : World, wo = wr := ⟨_, rfl⟩
    obtain ⟨j, dd, kk, rfl, rfl, rfl, hj, hgg, ED, EK, rfl⟩ := hrel
    have db := DB.out j (by omega)
    rw [← ED.out] at db
    obtain ⟨db1, db2⟩ := db
    by_cases hlt : j < pp
    · have hltz : ((a + j : Nat) : Int) < (a : Int) + (pp : Int) := by omega
      have wad : IntKind.i64.wrap ((a : Int) + (pp : Int)) = (a : Int) + (pp : Int) := wr (by omega) (by omega)
      have ss := S1.out.cell (i := a + j) (by omega)
      obtain ⟨sb1, sb2⟩ := HS0.out (a + j) (by omega)
      obtain ⟨b, off, rfl, hb, hc⟩ := (HP.out.below B1.out) (by omega)
      have c0 : w1.cell? ⟨b, off + (a + j) * 2, none⟩ = some (.int .i64 (t (a + j)).kd) := hc (a + j) (by omega) 0 (by decide)
      have kt := (HT.out (a + j) (by omega)).1
      have hltn : ((a + j : Nat) : Int) < (n : Int) := by omega
      have KN := hide (KS.out j)
      have kc := KC.out j
      rw [← EK.out] at KN kc
      clear hc hb
      have kt3 : (t (a + j)).kd = 0 ∨ (t (a + j)).kd = 1 ∨ (t (a + j)).kd = 2 := by omega
      clear kt
      by_cases hj0 : j = 0
      · have DN : Hid (dd - s (a + j) = dJ gap want a s (j + 1)) := by show _ = _; rw [ED.out]; subst hj0; exact (dJ_first _ _ _ _).symm
        have hgt : ¬ (a : Int) < ((a + j : Nat) : Int) := by omega
        have dn := DB.out (j + 1) (by omega)
        rw [← DN.out] at dn
        obtain ⟨dn1, dn2⟩ := dn
        clear ED EK hj0
        generalize s (a + j) = sj at *
        generalize (t (a + j)).kd = tk at *
        rcases kt3 with rfl | rfl | rfl <;> rcases kc with rfl | rfl | rfl
        all_goals
          replace KN := hide (KN.out.trans (by simp; rfl))
          go_wp2_with fail
          go_roundg (pp - j)
          case measure => omega
          case rel => exact ⟨j + 1, _, _, rfl, rfl, by go_num, by omega, by omega, DN, KN.out.symm, rfl⟩
      · have DN : Hid (dd - s (a + j) - gap = dJ gap want a s (j + 1)) := by show _ = _; rw [ED.out]; exact (dJ_next _ _ _ _ (by omega)).symm
        have hgt : (a : Int) < ((a + j : Nat) : Int) := by omega
        have dn := DB.out (j + 1) (by omega)
        rw [← DN.out] at dn
        obtain ⟨dn1, dn2⟩ := dn
        clear ED EK
        generalize s (a + j) = sj at *
        generalize (t (a + j)).kd = tk at *
        rcases kt3 with rfl | rfl | rfl <;> rcases kc with rfl | rfl | rfl
        all_goals
          replace KN := hide (KN.out.trans (by simp; rfl))
          go_wp2_with fail
          go_roundg (pp - j)
          case measure => omega
          case rel => exact ⟨j + 1, _, _, rfl, rfl, by go_num, by omega, by omega, DN, KN.out.symm, rfl⟩
    · have hltz : ¬ ((a + j : Nat) : Int) < (a : Int) + (pp : Int) := by omega
      obtain rfl : j = pp := by omega
      have wad : IntKind.i64.wrap ((a : Int) + (j : Int)) = (a : Int) + (j : Int) := wr (by omega) (by omega)
      have KD : Hid (kk = kdG t a j) := EK.out
      by_cases hpos : 0 < dd ∧ 0 ≤ kk
      case neg =>
        have SP := hide (SPN.out (by rw [← ED.out, ← EK.out]; exact hpos))
        rcases (show dd ≤ 0 ∨ (¬ dd ≤ 0 ∧ kk < 0) by omega) with h | ⟨h, h'⟩
        · have dz : decide (dd ≤ 0) = true := decide_eq_true h
          clear hpos
          go_wp2_with fail
          (try simp only [Exit.inBlock, Exit.then])
          refine bodyPost_ret (results_none rfl _ _ _) rfl ?_
          exact ⟨rfl, S1.out.congr fun i _ => (SP.out i).symm, KW.out⟩
        · have dz : decide (dd ≤ 0) = false := decide_eq_false h
          have dz2 : decide (kk < 0) = true := decide_eq_true h'
          clear hpos
          go_wp2_with fail
          (try simp only [Exit.inBlock, Exit.then])
          refine bodyPost_ret (results_none rfl _ _ _) rfl ?_
          exact ⟨rfl, S1.out.congr fun i _ => (SP.out i).symm, KW.out⟩
      obtain ⟨hp1', hp2'⟩ := hpos
      have dz : decide (dd ≤ 0) = false := decide_eq_false (by omega)
      have dz2 : decide (kk < 0) = false := decide_eq_false (by omega)
      obtain ⟨z, hz⟩ : ∃ z, z = zz kk := ⟨_, rfl⟩
      have ZI : Hid (∀ i, i < j → z (a + i) = !decide ((t (a + i)).kd = kk)) := fun i hi => by rw [hz]; exact ZIN.out kk i hi
      have ZO : Hid (∀ i, i < a ∨ a + j ≤ i → z i = true) := fun i hi => by rw [hz]; exact ZOUT.out kk i hi
      have RA : Hid (rk z (a + 0) = 0) := by show _ = _; exact rk_all fun i hi => ZO.out i (Or.inl (by omega))
      have RN : Hid (rk z n = rk z (a + j)) := by show _ = _; exact rk_same (by omega) fun i h1 h2 => ZO.out i (Or.inr h1)
      have SZ : Hid (∀ i, z i = true → spr i = s i) := fun i h => SPZ.out i (by rw [← EK.out, ← hz]; exact h)
      have SY : Hid (∀ i, z i = false → spr i = s i + shr dd ones (rk z n) (rk z i)) := fun i h => by
        have := SPY.out i (by rw [← ED.out]; exact hp1') (by rw [← EK.out]; exact hp2') (by rw [← EK.out, ← hz]; exact h)
        rw [← EK.out, ← hz, ← ED.out] at this
        exact this
      clear hz SPN SPZ SPY ZIN ZOUT KS KC K0 EK ED KD zz DB
      have O0 : Hid (w1.ownsRow w1.heap.size 3 1 (.slice none 0 0) (rk z (a + 0)) (vals (rk z (a + 0)) ones)) := by rw [RA.out]; exact World.ownsRow_nil _ _ _ _
      obtain ⟨pp, hpp⟩ : ∃ q, q = j := ⟨_, rfl⟩
      subst hpp
      go_wp2_with fail
      go_loopg [13, 14] (pp + 1) (fun g2 vw vi wr => ∃ (j : Nat) (uw : Value), uw = vw ∧ vi = .int .i64 ((a + j : Nat) : Int) ∧ j ≤ pp ∧ pp - j < g2 ∧ Hid (Below w1.heap.size w1 wr) ∧ Hid (wr.ownsRow w1.heap.size 3 1 uw (rk z (a + j)) (vals (rk z (a + j)) ones)))
      case atStart => exact ⟨0, _, rfl, by go_num, by omega, by omega, Below.refl _ _, O0⟩
      case round =>
        clear O0
        obtain ⟨wi, rfl⟩ : ∃ wi : World, wi = wr := ⟨_, rfl⟩
        obtain ⟨j, uw, rfl, rfl, hj, hg2, B5, O5⟩ := hrel
        have f0 : wi.cell? ⟨xb, 0, none⟩ = some (.int .i64 (a : Int)) := (B5.out.cell (p := ⟨xb, 0, none⟩) FBK.out.lt).trans (FBK.out.cell 0 rfl)
        have f1 : wi.cell? ⟨xb, 1, none⟩ = some (.int .i64 (pp : Int)) := (B5.out.cell (p := ⟨xb, 1, none⟩) FBK.out.lt).trans (FBK.out.cell 1 rfl)
        have wad : IntKind.i64.wrap ((a : Int) + (pp : Int)) = (a : Int) + (pp : Int) := wr (by omega) (by omega)
        by_cases hlt : j < pp
        · have hltz : ((a + j : Nat) : Int) < (a : Int) + (pp : Int) := by omega
          have hltn : ((a + j : Nat) : Int) < (n : Int) := by omega
          obtain ⟨b, off, rfl, hb, hc⟩ := (HP.out.below (B1.out.trans (B5.out.mono B1.out.size))) (by omega)
          have c0 : wi.cell? ⟨b, off + (a + j) * 2, none⟩ = some (.int .i64 (t (a + j)).kd) := hc (a + j) (by omega) 0 (by decide)
          have zj := ZI.out j hlt
          have er : rk z (a + (j + 1)) = rk z (a + j) + (if z (a + j) then 0 else 1) := rfl
          clear hc hb
          generalize (t (a + j)).kd = tk at *
          by_cases htk : tk = kk
          · have d1 : (tk == kk) = true := by simpa using htk
            rw [decide_eq_true htk] at zj
            have er2 : rk z (a + (j + 1)) = rk z (a + j) + 1 := by rw [er, zj]; rfl
            have ev : vals (rk z (a + (j + 1))) ones = vals (rk z (a + j)) ones ++ [.int .i64 1] := by rw [er2, vals_succ]; rfl
            have O5' := O5.out
            obtain ⟨i0, hi0, hz0, hz1, hz2⟩ := info_parts info_int
            have wsz : w1.heap.size ≤ wi.heap.size := B5.out.size
            have rb := rk_le z (a + j)
            have EV : Hid (rk z (a + (j + 1)) = rk z (a + j) + 1 ∧ vals (rk z (a + (j + 1))) ones = vals (rk z (a + j)) ones ++ [.int .i64 1]) := ⟨er2, ev⟩
            clear er er2 ev O5 zj htk
            go_wp2_with (at_builtin; refine wpList_append_own _ rfl _ _ 22 rfl w1.heap.size 3 i0 (.int .i64 0) 1 8 Try.underlying22 hi0 hz0 hz1 hz2 rfl (by decide) _ _ _ rfl (O5'.alloc _) ⟨wi.heap.size, 0, none⟩ 1 1 [.int .i64 1] rfl rfl ?c1 ?c2 ?c3 ?c4 ?c5 ?_)
            case c1 =>
              intro j u hj
              match j, hj with
              | 0, hj => simp at hj; subst hj; simp [Addr.add]
            case c2 => intro u hu; simp at hu; subst hu; rfl
            case c3 => unfold maxLen; omega
            case c4 => omega
            case c5 => simp; omega
            · intro v' w6 hown' hgrow hnil
              have NX5 : Hid (Below w1.heap.size w1 w6) := below_appended (B5.out.alloc B5.out.size _) hgrow (own_lt O5')
              have NO5 : Hid (w6.ownsRow w1.heap.size 3 1 v' (rk z (a + (j + 1))) (vals (rk z (a + (j + 1))) ones)) := by rw [EV.out.2, EV.out.1]; exact hown'
              clear hown' hgrow O5' hnil EV
              go_wp2_with fail
              go_roundg (pp - j)
              case measure => omega
              case rel => exact ⟨j + 1, _, rfl, by go_num, by omega, by omega, NX5, NO5⟩
          · have d1 : (tk == kk) = false := by simpa using htk
            rw [decide_eq_false htk] at zj
            have er2 : rk z (a + (j + 1)) = rk z (a + j) := by rw [er, zj]; rfl
            have NO5 : Hid (wi.ownsRow w1.heap.size 3 1 uw (rk z (a + (j + 1))) (vals (rk z (a + (j + 1))) ones)) := by rw [er2]; exact O5.out
            clear er er2 O5 zj htk
            go_wp2_with fail
            go_roundg (pp - j)
            case measure => omega
            case rel => exact ⟨j + 1, _, rfl, by go_num, by omega, by omega, B5, NO5⟩
        · have hltz : ¬ ((a + j : Nat) : Int) < (a : Int) + (pp : Int) := by omega
          obtain rfl : j = pp := by omega
          have ⟨pw, cw, hvw, RW⟩ := own_vals O5.out
          subst hvw
          have RW := hide RW
          have rb := rk_le z (a + j)
          have SH := hide (rshare_ok dd pw (rk z (a + j)) cw ones wi RW.out ⟨by omega, by omega, by omega, ones_good _⟩)
          rw [← RN.out] at SH
          obtain ⟨cn, hcn⟩ : ∃ cn, cn = rk z n := ⟨_, rfl⟩
          rw [← RN.out, ← hcn] at rb
          rw [← hcn] at SH SY
          have ecn : Hid (rk z (a + j) = cn) := by show _ = _; rw [hcn, RN.out]
          have HCN := hide hcn
          rw [show rk z (a + j) = cn from ecn.out] at *
          clear hcn O5 RW
          go_wp2_with fail
          refine SH.out.mono ?_
          rintro e w3 ⟨rfl, hB3, P, hPP, hPR⟩
          have K3 : Hid (Kept sb w1 w3) := (Kept.of B5.out).then hB3
          have P3 : Hid (IRow w3 wi.heap.size cn P) := hPR
          have S3 : Hid (IRow w3 sb n (fun i => if i < a + 0 then spr i else s i)) := ((S1.out.below B5.out S1.out.lt).below hB3 (Nat.lt_of_lt_of_le S1.out.lt B5.out.size)).congr fun i hi => by
            by_cases h : i < a + 0
            · rw [if_pos h]; exact (SZ.out i (ZO.out i (Or.inl (by omega)))).symm
            · rw [if_neg h]
          have NP : Hid (wi.heap.size ≠ sb ∧ w1.heap.size ≤ wi.heap.size) := ⟨by have := Nat.lt_of_lt_of_le S1.out.lt B5.out.size; omega, B5.out.size⟩
          have PS : Hid (∀ i, i < cn → P i = shr dd ones cn i ∧ 0 ≤ P i ∧ P i ≤ 1048576) := fun i hi => by
            have := hPP.bounds (by omega) (ones_good cn) hi
            exact ⟨shr_of hPP hi, this.1, by omega⟩
          clear hB3 hPP hPR SH B5 f0 f1 S1 dz dz2
          have f0 : w3.cell? ⟨xb, 0, none⟩ = some (.int .i64 (a : Int)) := (FBK.out.kept K3.out NX.out).cell 0 rfl
          go_wp2_with fail
          clear f0
          generalize wi.heap.size = pb at *
          obtain ⟨pp, hpp⟩ : ∃ q, q = j := ⟨_, rfl⟩
          subst hpp
          have RA2 : Hid ((0 : Int) = ((rk z (a + 0) : Nat) : Int)) := by show _ = _; rw [RA.out]; rfl
          go_loopg [17, 18] (pp + 1) (fun g3 vk vi wr => ∃ (j : Nat) (kq : Int), vk = .int .i64 kq ∧ vi = .int .i64 ((a + j : Nat) : Int) ∧ j ≤ pp ∧ pp - j < g3 ∧ Hid (kq = ((rk z (a + j) : Nat) : Int)) ∧ Hid (Kept sb w1 wr) ∧ Hid (IRow wr pb cn P) ∧ Hid (IRow wr sb n (fun i => if i < a + j then spr i else s i)))
          case atStart => exact ⟨0, 0, rfl, by go_num, by omega, by omega, RA2, K3, P3, S3⟩
          case round =>
            clear K3 P3 S3
            obtain ⟨wj, rfl⟩ : ∃ wj : World, wj = wr := ⟨_, rfl⟩
            obtain ⟨j, kq, rfl, rfl, hj, hg3, EKQ, KK, PR, SR⟩ := hrel
            have f0 : wj.cell? ⟨xb, 0, none⟩ = some (.int .i64 (a : Int)) := (FBK.out.kept KK.out NX.out).cell 0 rfl
            have f1 : wj.cell? ⟨xb, 1, none⟩ = some (.int .i64 (pp : Int)) := (FBK.out.kept KK.out NX.out).cell 1 rfl
            by_cases hlt : j < pp
            · have hltz : ((a + j : Nat) : Int) < (a : Int) + (pp : Int) := by omega
              have hltn : ((a + j : Nat) : Int) < (n : Int) := by omega
              obtain ⟨b, off, rfl, hb, hc⟩ := (HP.out.below (B1.out.trans (KK.out.below hsb2.out B1.out.size))) (by omega)
              have c0 : wj.cell? ⟨b, off + (a + j) * 2, none⟩ = some (.int .i64 (t (a + j)).kd) := hc (a + j) (by omega) 0 (by decide)
              have zj := ZI.out j hlt
              have er : rk z (a + (j + 1)) = rk z (a + j) + (if z (a + j) then 0 else 1) := rfl
              obtain ⟨sb1, sb2⟩ := HS0.out (a + j) (by omega)
              clear hc hb
              generalize (t (a + j)).kd = tk at *
              by_cases htk : tk = kk
              · have d1 : (tk == kk) = true := by simpa using htk
                rw [decide_eq_true htk] at zj
                have zj' : z (a + j) = false := by rw [zj]; rfl
                have er2 : rk z (a + (j + 1)) = rk z (a + j) + 1 := by rw [er, zj]; rfl
                have rlt : rk z (a + j) < cn := by rw [HCN.out]; exact rk_lt (by omega) zj'
                have EN : Hid (kq + 1 = ((rk z (a + (j + 1)) : Nat) : Int)) := by show _ = _; rw [er2, EKQ.out]; omega
                obtain ⟨ps1, ps2, ps3⟩ := PS.out _ rlt
                have SPE : Hid (spr (a + j) = s (a + j) + P (rk z (a + j))) := by show _ = _; rw [SY.out _ zj', ps1]
                have kq1 : 0 ≤ kq ∧ kq ≤ 100 := by have := EKQ.out; omega
                obtain ⟨rj, hrj⟩ : ∃ rj, rj = rk z (a + j) := ⟨_, rfl⟩
                rw [← hrj] at rlt ps2 ps3 SPE EKQ
                have ekq : kq = (rj : Int) := EKQ.out
                subst ekq
                have rltz : (rj : Int) < (cn : Int) := by omega
                have J0 : Hid (∀ W', (Kept sb w1 W' ∧ IRow W' pb cn P ∧ IRow W' sb n (fun i => if i < a + j then spr i else s i)) → (W'.cell? ⟨sb, a + j, none⟩ = some (.int .i64 (s (a + j))) ∧ W'.cell? ⟨pb, rj, none⟩ = some (.int .i64 (P rj)))) := fun W' h => ⟨by have := h.2.2.cell (i := a + j) (by omega); rw [if_neg (Nat.lt_irrefl _)] at this; exact this, h.2.1.cell rlt⟩
                have ST : Hid (∀ W', (Kept sb w1 W' ∧ IRow W' pb cn P ∧ IRow W' sb n (fun i => if i < a + j then spr i else s i)) → W'.frozen? ⟨sb, a + j, none⟩ = false ∧ (Kept sb w1 (W'.setCell ⟨sb, a + j, none⟩ (.int .i64 (s (a + j) + P rj))) ∧ IRow (W'.setCell ⟨sb, a + j, none⟩ (.int .i64 (s (a + j) + P rj))) pb cn P ∧ IRow (W'.setCell ⟨sb, a + j, none⟩ (.int .i64 (s (a + j) + P rj))) sb n (fun i => if i < a + (j + 1) then spr i else s i))) := fun W' ⟨s1, s2, s3⟩ => ⟨s3.frozen _, s1.set _ _, s2.far NP.out.1 _, (s3.set_ (a + j) _).congr fun i hi => by
                  by_cases h1 : i = a + j
                  · subst h1; rw [if_pos rfl, if_pos (by omega)]; exact SPE.out.symm
                  · by_cases h2 : i < a + j
                    · rw [if_neg h1, if_pos h2, if_pos (by omega)]
                    · rw [if_neg h1, if_neg h2, if_neg (by omega)]⟩
                have PRE : Hid ((Kept sb w1 wj.drew ∧ IRow wj.drew pb cn P ∧ IRow wj.drew sb n (fun i => if i < a + j then spr i else s i))) := ⟨KK.out.drewN 1, PR.out, SR.out⟩
                clear KK PR SR er er2 zj zj' htk ps1 SPE EKQ hrj
                generalize s (a + j) = si at *
                generalize P rj = pk at *
                have wsm : IntKind.i64.wrap (si + pk) = si + pk := wr (by omega) (by omega)
                go_wp2_with fail
                have hq0 : 0 ≤ (a : Int) + (j : Int) := by omega
                have hq1 : (a : Int) + (j : Int) < (n : Int) := by omega
                have hq2 : ((a : Int) + (j : Int)).toNat = a + j := by omega
                refine MJ.wp_region_chain (fun W' => W'.cell? ⟨sb, a + j, none⟩ = some (.int .i64 si) ∧ W'.cell? ⟨pb, rj, none⟩ = some (.int .i64 pk)) [10] [] (st1k (fun W' => (Kept sb w1 W' ∧ IRow W' pb cn P ∧ IRow W' sb n (fun i => if i < a + j then spr i else s i))) (fun W' => (Kept sb w1 W' ∧ IRow W' pb cn P ∧ IRow W' sb n (fun i => if i < a + (j + 1) then spr i else s i)))) (by kernel_rfl) (by kernel_rfl) (by simp) ?h0 ?hJ ?_
                case h0 => exact PRE.out
                case hJ =>
                  rintro vals W' (hl | hl) hS'
                  · obtain rfl : vals = [] := by simpa using hl
                    exact J0.out W' hS'
                  · exact absurd hl (by rw [show MJ.sinkL _ _ = true by kernel_rfl]; exact Bool.noConfusion)
                repeat (refine MJ.lex_calm rfl (by rfl) (fun K hK => ?_); apply Exists.intro; refine ⟨fun W' hW => ?_, ?_⟩; (dsimp only at hW; go_simp; exact rfl); go_simp; refine hK _ ?_; clear hK K)
                refine MJ.lex_chain 0 rfl (by kernel_rfl) rfl ?_ ?_
                · rintro vs W' hS'
                  obtain ⟨y2, y3⟩ := ST.out W' hS'
                  obtain ⟨y1, _⟩ := J0.out W' hS'
                  have y3 := hide y3
                  clear hS'
                  simp [go_sem, evS, List.lookup, y1, y2]
                  exact y3.out
                refine MJ.lex_nil ?_
                rintro vs w5 ⟨s1, s2, s3⟩
                have K5 := hide s1
                have P5 := hide s2
                have S5 := hide s3
                clear s1 s2 s3 J0 ST PRE hq0 hq1 hq2
                simp only [fillS, List.foldl_nil]
                go_wp2_with fail
                go_roundg (pp - j)
                case measure => omega
                case rel => exact ⟨j + 1, _, rfl, by go_num, by omega, by omega, EN, K5, P5, S5⟩
              · have d1 : (tk == kk) = false := by simpa using htk
                rw [decide_eq_false htk] at zj
                have er2 : rk z (a + (j + 1)) = rk z (a + j) := by rw [er, zj]; rfl
                have EN : Hid (kq = ((rk z (a + (j + 1)) : Nat) : Int)) := by show _ = _; rw [er2]; exact EKQ.out
                have NS : Hid (IRow wj sb n (fun i => if i < a + (j + 1) then spr i else s i)) := SR.out.congr fun i hi => by
                  by_cases h1 : i = a + j
                  · subst h1; rw [if_neg (Nat.lt_irrefl _), if_pos (by omega)]; exact (SZ.out _ zj).symm
                  · by_cases h2 : i < a + j
                    · rw [if_pos h2, if_pos (by omega)]
                    · rw [if_neg h2, if_neg (by omega)]
                clear er er2 zj htk SR
                go_wp2_with fail
                go_roundg (pp - j)
                case measure => omega
                case rel => exact ⟨j + 1, _, rfl, by go_num, by omega, by omega, EN, KK, PR, NS⟩
            · have hltz : ¬ ((a + j : Nat) : Int) < (a : Int) + (pp : Int) := by omega
              obtain rfl : j = pp := by omega
              go_wp2_with fail
              go_end0
              exact ⟨rfl, SR.out.congr fun i hi => by
                by_cases h : i < a + j
                · rw [if_pos h]
                · rw [if_neg h]; exact (SZ.out i (ZO.out i (Or.inr (by omega)))).symm, KW.out.trans KK.out⟩
end Go.Proofs.Ytdoenkngmgclmaa
