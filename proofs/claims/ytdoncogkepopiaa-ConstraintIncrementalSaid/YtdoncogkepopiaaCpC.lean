/- What raise of package constraint returns: the least values that satisfy all bounds, or that there are none; it writes memory of its own only. -/
import Derived.Test.YtdoncogkepopiaaCpB
import Derived.Test.YtdoncogkepopiaaCRw
import Derived.Shelf.Slices.Clone
import Derived.BigQuiet
namespace Go.Proofs.Ytdoncogkepopiaa
open Go.RowKit Go.Sort Go.Shelf
set_option linter.unusedVariables false
set_option linter.unusedSimpArgs false

def cloRen : Ren := ⟨fun | 15 => 39 | n => n, fun | 3 => 3 | 4 => 4 | 22 => 24 | n => n, fun n => n⟩
theorem cloLaid : Lays2.n15 Try.prog cloRen := {
  mixed := by kernel_rfl
  f15 := Try.func39.trans (by kernel_rfl)
  t3 := Try.underlying3
  a3 := Try.isAgg3
  z3 := Try.sizeOf3
  v3 := Try.zeroValue3
  t4 := Try.underlying4
  a4 := Try.isAgg4
  z4 := Try.sizeOf4
  v4 := Try.zeroValue4
  t22 := Try.underlying24
  a22 := Try.isAgg24
  z22 := Try.sizeOf24
  v22 := Try.zeroValue24
  i3 := by kernel_rfl }
theorem clo_any (b n c : Nat) (f : Nat → Int) (w : World) (hn : n ≤ 1048576) (hr : CRw w b n f) :
    Calls Try.prog 39 #[.slice (some ⟨b, 0, none⟩) n c] w fun e w' => ∃ q sb k, e = .returned (.slice q n k) ∧ n ≤ k ∧ w.heap.size ≤ sb ∧ (0 < n → q = some ⟨sb, 0, none⟩ ∧ CRw w' sb n f) ∧ Below w.heap.size w w' := by
  have hl : ((List.range n).map f).length = n := by simp
  have h := Any.slices_Clone_int cloLaid b 0 n c ((List.range n).map f) w (by rw [hl]; omega) (by omega) (fun j hj => by
    rw [hl] at hj
    rw [Nat.zero_add, hr.cell hj]
    simp [hj])
  refine (show Calls Try.prog 39 _ w _ from h).mono ?_
  rintro e w' ⟨v', rfl, ho, _, hB⟩
  have ev : ((((List.range n).map f).take n).map (Value.int .i64)) = vals n f := by
    rw [List.take_of_length_le (by rw [hl]; omega)]
    simp [vals]
  rw [ev] at ho
  obtain ⟨q, sb, k, rfl, h0, h1, h2⟩ := own_sz ho
  exact ⟨q, sb, k, rfl, h0, h1, h2, hB⟩
theorem po_no {x : Nat → Int} {a nn : Int} (h : vF x a < nn) (h2 : a < 0 ∨ 1048576 < nn) : poF x a nn = false := by
  unfold poF
  by_cases h0 : a < 0
  · rw [if_pos h0, decide_eq_false]
    rw [vF_neg h0] at h
    omega
  · rw [if_neg h0, if_neg (by omega), decide_eq_false (by omega)]
theorem po_yes {x : Nat → Int} {a nn : Int} (h : vF x a < nn) (h0 : 0 ≤ a) (h2 : nn ≤ 1048576) : poF x a nn = true := by
  unfold poF
  rw [if_neg (by omega), if_neg (by omega), decide_eq_true h2]
theorem vF_bdQ {n : Nat} {x : Nat → Int} (hb : ∀ i, i < n → 0 ≤ x i ∧ x i ≤ 1048576) {i : Int} (hi : i < n) : 0 ≤ vF x i ∧ vF x i ≤ 1048576 := by
  unfold vF
  split
  · omega
  · exact hb _ (by omega)
/-- What the treatment of one bound needs and gives, in plain terms. -/
theorem ra_step {n nb k : Nat} {bl : Nat → Cn} {x z : Nat → Int} {any : Bool} (hok : ∀ k, k < nb → okC n (bl k) ∧ (bl k).rel = 0) (hlk : k < nb) (RN : Rnd n nb bl trueF x z k any) :
    ∃ (ta fb : Nat) (va vb dd : Int) (rz : Nat → Int), ta < n + 1 ∧ fb < n + 1 ∧ (bl k).a + 1 = (ta : Int) ∧ (bl k).b + 1 = (fb : Int) ∧ (bl k).cc = dd ∧ (-1048576 ≤ dd ∧ dd ≤ 1048576) ∧ (0 ≤ va ∧ va ≤ 1048576) ∧ (0 ≤ vb ∧ vb ≤ 1048576) ∧ shF z ta = va ∧ shF z fb = vb ∧
      (vb + dd ≤ va → Rnd n nb bl trueF x z (k + 1) any) ∧ (va < vb + dd → ta = 0 ∨ 1048576 < vb + dd → ¬ Feas n nb bl trueF) ∧ (va < vb + dd → ¬ ta = 0 → vb + dd ≤ 1048576 → Rnd n nb bl trueF x rz (k + 1) true ∧ ∀ j, shF rz j = if j = ta then vb + dd else shF z j) := by
  have HC : ∀ k, k < nb → okC n (bl k) := fun k hk => (hok k hk).1
  obtain ⟨⟨⟨⟨a1, a2⟩, b1, b2⟩, ⟨-, -⟩, ⟨e1, e2⟩, -, -⟩, hrel0⟩ := hok k hlk
  have ASK : ∀ y, Sol n nb bl trueF y → vF z (bl k).b + (bl k).cc ≤ vF y (bl k).a := asks1 HC RN hlk rfl (by rw [hrel0]; decide)
  obtain ⟨ta, hta⟩ : ∃ ta : Nat, (bl k).a + 1 = (ta : Int) := ⟨((bl k).a + 1).toNat, by omega⟩
  obtain ⟨fb, hfb⟩ : ∃ fb : Nat, (bl k).b + 1 = (fb : Int) := ⟨((bl k).b + 1).toNat, by omega⟩
  have sa : shF z ta = vF z (bl k).a := by have := shF_vF z a1; rw [hta, Int.toNat_natCast] at this; exact this
  have sb : shF z fb = vF z (bl k).b := by have := shF_vF z b1; rw [hfb, Int.toNat_natCast] at this; exact this
  refine ⟨ta, fb, vF z (bl k).a, vF z (bl k).b, (bl k).cc, raF z (bl k).a (vF z (bl k).b + (bl k).cc), by omega, by omega, hta, hfb, rfl, ⟨e1, e2⟩, vF_bdQ RN.b a2, vF_bdQ RN.b b2, sa, sb, fun h => ?_, fun h h2 => ?_, fun h h0 h2 => ⟨?_, fun j => ?_⟩⟩
  · exact RN.step HC hlk (fun _ => by have := RN.vup (j := (bl k).b) b2; omega) (fun q => absurd hrel0 q)
  · exact ra_none ASK a2 RN.below (po_no h (by omega))
  · have h0' : 0 ≤ (bl k).a := by omega
    have hp := po_yes h h0' h2
    have hh := RN.half1 HC hlk rfl (by rw [hrel0]; decide) hp
    have hch : chF z (bl k).a (vF z (bl k).b + (bl k).cc) = true := by unfold chF; rw [decide_eq_true h0', decide_eq_true h]; rfl
    rw [hch, Bool.or_true] at hh
    refine hh.step HC hlk (fun _ => ?_) (fun q => absurd hrel0 q)
    have e5 := ra_ge hp
    have := RN.vup (j := (bl k).b) b2
    omega
  · have := shF_ra (j := j) (show 0 ≤ (bl k).a by omega) h
    rw [hta, Int.toNat_natCast] at this
    exact this
/-- What a call of raise has returned. -/
def RaPost (n nb : Nat) (bl : Nat → Cn) (w : World) (e : Ending) (w' : World) : Prop :=
  Below w.heap.size w w' ∧ ((Feas n nb bl trueF ∧ ∃ rb k y, e = .returned (.tuple #[.slice (some ⟨rb, 0, none⟩) (n + 1) k, .bool true]) ∧ n + 1 ≤ k ∧ w.heap.size ≤ rb ∧ CRw w' rb (n + 1) (shF y) ∧ Lst n nb bl trueF y) ∨ (¬ Feas n nb bl trueF ∧ e = .returned (.tuple #[.slice none 0 0, .bool false])))
theorem ra_fail {n nb : Nat} {bl : Nat → Cn} {w w' : World} (h : ¬ Feas n nb bl trueF) (hB : Below w.heap.size w w') : RaPost n nb bl w (.returned (.tuple #[.slice none 0 0, .bool false])) w' := ⟨hB, Or.inr ⟨h, rfl⟩⟩
theorem ra_found {n nb rb k : Nat} {bl : Nat → Cn} {y : Nat → Int} {w w' : World} (h : Lst n nb bl trueF y) (hB : Below w.heap.size w w') (hk : n + 1 ≤ k) (hr : w.heap.size ≤ rb) (hc : CRw w' rb (n + 1) (shF y)) : RaPost n nb bl w (.returned (.tuple #[.slice (some ⟨rb, 0, none⟩) (n + 1) k, .bool true])) w' := ⟨hB, Or.inl ⟨⟨y, h.1⟩, rb, k, y, rfl, hk, hr, hc, h⟩⟩
set_option maxHeartbeats 16000000 in
set_option maxRecDepth 100000 in
theorem praise_any (n nb c cb vb : Nat) (pb : Option Addr) (x0 : Nat → Int) (bl : Nat → Cn) (w : World) (hV : CRw w vb (n + 1) (shF x0)) (hB : SRow w pb nb 3 (bdC bl)) (hL : Low n nb bl x0) (hok : ∀ k, k < nb → okC n (bl k) ∧ (bl k).rel = 0) (hn : n ≤ 64) (hnb : nb ≤ 10000) :
    Calls Try.prog 36 #[.slice (some ⟨vb, 0, none⟩) (n + 1) c, .slice pb nb cb] w (RaPost n nb bl w) := by
  have C := hide (clo_any vb (n + 1) c (shF x0) w (by omega) hV)
  have HB := hide hB
  have HK := hide hok
  have HC : Hid (∀ k, k < nb → okC n (bl k)) := fun k hk => (hok k hk).1
  have R0 := hide hL.rds
  have OUT : Hid (∀ x r, n < r → Rds n nb bl trueF x r → ¬ Feas n nb bl trueF) := fun x r hr h => h.out hr
  clear hV hB hL hok
  go_enter Try.func36, Try.ntmps36
  go_wp2_with fail
  refine C.out.mono ?_
  rintro e w1 ⟨q, sb, kc, rfl, hkc, hsb, hq, hB1⟩
  have HKC := hide hkc
  obtain ⟨rfl, C1⟩ := hq (by omega)
  have HSB := hide hsb
  have B1 := hide hB1
  have C1 := hide C1
  clear C hq hsb hB1 hkc
  go_wp2_with fail
  go_loopg [15] (n + 3) (fun g1 vr wr => ∃ (r : Nat) (x : Nat → Int), vr = .int .i64 (r : Int) ∧ r ≤ n + 1 ∧ n + 1 - r < g1 ∧ Hid (Rds n nb bl trueF x r) ∧ Hid (CRw wr sb (n + 1) (shF x)) ∧ Hid (Below w.heap.size w wr))
  case atStart => exact ⟨0, x0, by go_num, by omega, by omega, R0, C1, B1⟩
  case round =>
    clear R0 C1 B1
    obtain ⟨wo, rfl⟩ : ∃ wo : World, wo = wr := ⟨_, rfl⟩
    obtain ⟨r, x, rfl, hr, hg1, RR, CR, BR⟩ := hrel
    by_cases hrn : r < n + 1
    case neg =>
      have hrz : ¬ (r : Int) < (n : Int) + 1 := by omega
      have drz : decide ((r : Int) < (n : Int) + 1) = false := decide_eq_false hrz
      have NF := hide (OUT.out x r (by omega) RR.out)
      have BF := hide BR.out
      clear RR CR BR OUT
      go_wp2_with fail
      go_ret2
      exact ra_fail NF.out BF.out
    have hrz : (r : Int) < (n : Int) + 1 := by omega
    have drz : decide ((r : Int) < (n : Int) + 1) = true := decide_eq_true hrz
    go_wp2_with fail
    go_loopg [7, 19] (nb + 1) (fun g2 va vk wq => ∃ (k : Nat) (any : Bool) (z : Nat → Int), va = .bool any ∧ vk = .int .i64 (k : Int) ∧ k ≤ nb ∧ nb - k < g2 ∧ Hid (Rnd n nb bl trueF x z k any) ∧ Hid (CRw wq sb (n + 1) (shF z)) ∧ Hid (Below w.heap.size w wq))
    case atStart => exact ⟨0, false, x, rfl, by go_num, by omega, by omega, RR.out.start, CR, BR⟩
    case round =>
      clear CR BR
      obtain ⟨wi, rfl⟩ : ∃ wi : World, wi = wr := ⟨_, rfl⟩
      obtain ⟨k, any, z, rfl, rfl, hk, hg2, RN, CZ, BZ⟩ := hrel
      by_cases hlk : k < nb
      case neg =>
        have hkz : ¬ (k : Int) < (nb : Int) := by omega
        obtain rfl : nb = k := by omega
        cases any
        · have L := hide (RN.out.found HC.out)
          have CF := hide CZ.out
          have BF := hide BZ.out
          clear RN CZ BZ RR OUT
          go_wp2_with fail
          go_ret2
          exact ra_found L.out BF.out HKC.out HSB.out CF.out
        · have RX := hide (RR.out.next HC.out RN.out)
          have CF := hide CZ.out
          have BF := hide BZ.out
          clear RN CZ BZ RR
          go_wp2_with fail
          go_roundg (n + 1 - r)
          case measure => exact hg1
          case rel => exact ⟨r + 1, z, by go_num, by omega, by omega, RX, CF, BF⟩
      have hkz : (k : Int) < (nb : Int) := by omega
      have h0k : (0 : Int) ≤ (k : Int) := by omega
      obtain ⟨b, off, rfl, hb, hc⟩ := (HB.out.below BZ.out) (by omega)
      have c0 : wi.cell? ⟨b, off + k * 3, none⟩ = some (.int .i64 ((bl k).a + 1)) := hc k hlk 0 (by decide)
      have c1 : wi.cell? ⟨b, off + k * 3 + 1, none⟩ = some (.int .i64 ((bl k).b + 1)) := hc k hlk 1 (by decide)
      have c2 : wi.cell? ⟨b, off + k * 3 + 2, none⟩ = some (.int .i64 (bl k).cc) := hc k hlk 2 (by decide)
      obtain ⟨ta, fb, va, vv, dd, rz, hta, hfb, ea, eb, ed, ⟨d1, d2⟩, ⟨va1, va2⟩, ⟨vb1, vb2⟩, sa, sv, STAY, GONE, MORE⟩ := ra_step HK.out hlk RN.out
      rw [ea] at c0
      rw [eb] at c1
      rw [ed] at c2
      have ca : wi.cell? ⟨sb, ta, none⟩ = some (.int .i64 va) := by rw [CZ.out.cell hta, sa]
      have cv : wi.cell? ⟨sb, fb, none⟩ = some (.int .i64 vv) := by rw [CZ.out.cell hfb, sv]
      have zta : (ta : Int) < (n : Int) + 1 := by omega
      have zfb : (fb : Int) < (n : Int) + 1 := by omega
      have CA : Hid (∀ W, CRw W sb (n + 1) (shF z) → W.cell? ⟨sb, ta, none⟩ = some (.int .i64 va)) := fun W hW => by rw [hW.cell hta, sa]
      have SET : Hid (∀ W, CRw W sb (n + 1) (shF z) → (∀ j, shF rz j = if j = ta then vv + dd else shF z j) → CRw (W.setCell ⟨sb, ta, none⟩ (.int .i64 (vv + dd))) sb (n + 1) (shF rz)) := fun W hW h => (hW.set_ _ _).congr fun j _ => (h j).symm
      have T0 := hide (fun j => (Blk.new (W := wi) (T := 67) (vs := [.int .i64 (ta : Int), .int .i64 (fb : Int), .int .i64 dd]) rfl).drewN j)
      have pta : (0 : Int) ≤ (ta : Int) := by omega
      have pfb : (0 : Int) ≤ (fb : Int) := by omega
      have hsz := BZ.out.size
      have wn : IntKind.i64.wrap (vv + dd) = vv + dd := wr (by omega) (by omega)
      have AL : Hid (∀ o j, CRw ((wi.alloc o).drewN j) sb (n + 1) (shF z) ∧ Below w.heap.size w ((wi.alloc o).drewN j)) := fun o j => by
        obtain ⟨cur, h1, h2⟩ := CZ.out
        refine ⟨⟨cur, (heap_alloc_old wi o (r := sb) CZ.out.lt).trans h1, h2⟩, ?_⟩
        have := BZ.out.alloc hsz o
        exact ⟨this.os, this.tape, this.output, this.size, this.block⟩
      have NX := hide STAY
      have NG := hide GONE
      have NM := hide MORE
      have lsb := CZ.out.lt
      clear hc hb sa sv ea eb ed STAY GONE MORE RN CZ BZ RR OUT HK HB HC
      by_cases hle : vv + dd ≤ va
      · have N1 := hide (NX.out hle)
        have dle : decide (vv + dd ≤ va) = true := decide_eq_true hle
        clear NX NG NM SET
        go_wp2_with fail
        go_quiet (fail)
        have AW := hide (AL.out (.cells #[.int .i64 (ta : Int), .int .i64 (fb : Int), .int .i64 dd] 67) nq)
        have TB := hide (T0.out nq)
        clear AL T0
        generalize (wi.alloc (.cells #[.int .i64 (ta : Int), .int .i64 (fb : Int), .int .i64 dd] 67)).drewN nq = w5 at *
        have k0 := TB.out.cell 0 rfl
        have ka := CA.out w5 AW.out.1
        go_wp2_with fail
        go_roundg (nb - k)
        case measure => exact hg2
        case rel => exact ⟨k + 1, any, z, rfl, by go_num, by omega, by omega, N1, AW.out.1, AW.out.2⟩
      have hlt : va < vv + dd := by omega
      have dle : decide (vv + dd ≤ va) = false := decide_eq_false hle
      by_cases h0 : ta = 0
      · have NF := hide (NG.out hlt (Or.inl h0))
        have d0 : ((ta : Int) == 0) = true := by rw [h0]; rfl
        clear NX NG NM SET h0
        go_wp2_with fail
        go_quiet (fail)
        have AW := hide (AL.out (.cells #[.int .i64 (ta : Int), .int .i64 (fb : Int), .int .i64 dd] 67) nq)
        have TB := hide (T0.out nq)
        clear AL T0
        generalize (wi.alloc (.cells #[.int .i64 (ta : Int), .int .i64 (fb : Int), .int .i64 dd] 67)).drewN nq = w5 at *
        have k0 := TB.out.cell 0 rfl
        have ka := CA.out w5 AW.out.1
        go_wp2_with fail
        go_ret2
        exact ra_fail NF.out AW.out.2
      have d0 : ((ta : Int) == 0) = false := by simpa using h0
      by_cases hm : 1048576 < vv + dd
      · have NF := hide (NG.out hlt (Or.inr hm))
        have dm : decide (1048576 < vv + dd) = true := decide_eq_true hm
        clear NX NG NM SET h0
        go_wp2_with fail
        go_quiet (fail)
        have AW := hide (AL.out (.cells #[.int .i64 (ta : Int), .int .i64 (fb : Int), .int .i64 dd] 67) nq)
        have TB := hide (T0.out nq)
        clear AL T0
        generalize (wi.alloc (.cells #[.int .i64 (ta : Int), .int .i64 (fb : Int), .int .i64 dd] 67)).drewN nq = w5 at *
        have k0 := TB.out.cell 0 rfl
        have ka := CA.out w5 AW.out.1
        go_wp2_with fail
        go_ret2
        exact ra_fail NF.out AW.out.2
      have dm : decide (1048576 < vv + dd) = false := decide_eq_false hm
      obtain ⟨N1, N2⟩ := NM.out hlt h0 (by omega)
      have N1 := hide N1
      have N2 := hide N2
      clear NX NG NM
      go_wp2_with fail
      go_quiet (fail)
      have AW := hide (AL.out (.cells #[.int .i64 (ta : Int), .int .i64 (fb : Int), .int .i64 dd] 67) nq)
      have TB := hide (T0.out nq)
      clear AL T0
      generalize (wi.alloc (.cells #[.int .i64 (ta : Int), .int .i64 (fb : Int), .int .i64 dd] 67)).drewN nq = w5 at *
      have k0 := TB.out.cell 0 rfl
      have ka := CA.out w5 AW.out.1
      have fz := AW.out.1.frozen ta
      have CS := hide (SET.out w5 AW.out.1 N2.out)
      have BS : Hid (Below w.heap.size w (w5.setCell ⟨sb, ta, none⟩ (.int .i64 (vv + dd)))) := AW.out.2.setCell HSB.out _
      have TS := hide (TB.out.other (show wi.heap.size ≠ sb by omega) (j := ta) (.int .i64 (vv + dd)))
      clear SET N2 TB
      go_wp2_with fail
      generalize w5.setCell ⟨sb, ta, none⟩ (.int .i64 (vv + dd)) = w6 at *
      go_roundg (nb - k)
      case measure => exact hg2
      case rel => exact ⟨k + 1, true, rz, by first | go_num | simp, by go_num, by omega, by omega, N1, CS, BS⟩
end Go.Proofs.Ytdoncogkepopiaa
