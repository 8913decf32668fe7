/- least of the reference of package constraint finds the least solution, or says that there is none; all numbers in range. -/
import Derived.Test.YtdoncogkepopiaaCoR1
import Derived.Test.YtdoncogkepopiaaMixJ
import Derived.Test.YtdoncogkepopiaaBRw
import Derived.Test.YtdoncogkepopiaaCoS
import Derived.BigQuiet
import Derived.Deep.Cut
import Derived.Deep.LoopGhost
namespace Go.Proofs.Ytdoncogkepopiaa
open Go.RowKit Go.Sort
set_option linter.unusedVariables false
set_option linter.unusedSimpArgs false

theorem Kept.belowW {sb : Nat} {w0 w w' : World} (h : Kept sb w w') (h0 : Below w0.heap.size w0 w) (h1 : w0.heap.size ≤ sb) : Below w0.heap.size w0 w' := h0.trans (h.below h1 h0.size)
abbrev tupB (a b : Bool) : Value := .tuple #[.bool a, .bool b]
/-- What stands behind the operations of a raising: the value that is read, the sum, the call, its two results. -/
structure raM (sb n : Nat) (wq : World) (x x' : Nat → Int) (v6 v9 : Int) (ch po : Bool) (D : Nat → Bool) (vs : Nat → Value) (W : World) : Prop where
  m0 : Kept sb wq W
  ma : D 10 = false → IRow W sb n x
  mb : D 10 = true → IRow W sb n x'
  m6 : D 6 = true → vs 6 = .int .i64 v6
  m9 : D 9 = true → vs 9 = .int .i64 v9
  m10 : D 10 = true → vs 10 = tupB ch po
  m11 : D 11 = true → vs 11 = tupB ch po
  m12 : D 12 = true → vs 12 = .bool ch
  m13 : D 13 = true → vs 13 = .bool po
  m14 : D 14 = true → vs 14 = .bool ch
  m15 : D 15 = true → vs 15 = .bool po
section
variable {sb n : Nat} {wq W W' : World} {x x' : Nat → Int} {v6 v9 : Int} {ch po : Bool} {D D' : Nat → Bool} {vs vs' : Nat → Value}
theorem raM.ext (h : raM sb n wq x x' v6 v9 ch po D vs W) (hD : ∀ b ∈ [6, 9, 10, 11, 12, 13, 14, 15], D b = D' b ∧ (D b = true → vs b = vs' b)) : raM sb n wq x x' v6 v9 ch po D' vs' W := by
  obtain ⟨a6, b6⟩ := hD 6 (by simp)
  obtain ⟨a9, b9⟩ := hD 9 (by simp)
  obtain ⟨a10, b10⟩ := hD 10 (by simp)
  obtain ⟨a11, b11⟩ := hD 11 (by simp)
  obtain ⟨a12, b12⟩ := hD 12 (by simp)
  obtain ⟨a13, b13⟩ := hD 13 (by simp)
  obtain ⟨a14, b14⟩ := hD 14 (by simp)
  obtain ⟨a15, b15⟩ := hD 15 (by simp)
  refine ⟨h.m0, fun hd => h.ma (by rw [a10]; exact hd), fun hd => h.mb (by rw [a10]; exact hd), fun hd => ?_, fun hd => ?_, fun hd => ?_, fun hd => ?_, fun hd => ?_, fun hd => ?_, fun hd => ?_, fun hd => ?_⟩
  · rw [← a6] at hd; rw [← b6 hd]; exact h.m6 hd
  · rw [← a9] at hd; rw [← b9 hd]; exact h.m9 hd
  · rw [← a10] at hd; rw [← b10 hd]; exact h.m10 hd
  · rw [← a11] at hd; rw [← b11 hd]; exact h.m11 hd
  · rw [← a12] at hd; rw [← b12 hd]; exact h.m12 hd
  · rw [← a13] at hd; rw [← b13 hd]; exact h.m13 hd
  · rw [← a14] at hd; rw [← b14 hd]; exact h.m14 hd
  · rw [← a15] at hd; rw [← b15 hd]; exact h.m15 hd
theorem raM.op6 (h : raM sb n wq x x' v6 v9 ch po D vs W) : raM sb n wq x x' v6 v9 ch po (upd D 6 true) (upd vs 6 (.int .i64 v6)) W := ⟨h.m0, fun hd => h.ma hd, fun hd => h.mb hd, fun _ => rfl, fun hd => h.m9 hd, fun hd => h.m10 hd, fun hd => h.m11 hd, fun hd => h.m12 hd, fun hd => h.m13 hd, fun hd => h.m14 hd, fun hd => h.m15 hd⟩
theorem raM.op9 (h : raM sb n wq x x' v6 v9 ch po D vs W) : raM sb n wq x x' v6 v9 ch po (upd D 9 true) (upd vs 9 (.int .i64 v9)) W := ⟨h.m0, fun hd => h.ma hd, fun hd => h.mb hd, fun hd => h.m6 hd, fun _ => rfl, fun hd => h.m10 hd, fun hd => h.m11 hd, fun hd => h.m12 hd, fun hd => h.m13 hd, fun hd => h.m14 hd, fun hd => h.m15 hd⟩
theorem raM.op11 (h : raM sb n wq x x' v6 v9 ch po D vs W) : raM sb n wq x x' v6 v9 ch po (upd D 11 true) (upd vs 11 (tupB ch po)) W := ⟨h.m0, fun hd => h.ma hd, fun hd => h.mb hd, fun hd => h.m6 hd, fun hd => h.m9 hd, fun hd => h.m10 hd, fun _ => rfl, fun hd => h.m12 hd, fun hd => h.m13 hd, fun hd => h.m14 hd, fun hd => h.m15 hd⟩
theorem raM.op12 (h : raM sb n wq x x' v6 v9 ch po D vs W) : raM sb n wq x x' v6 v9 ch po (upd D 12 true) (upd vs 12 (.bool ch)) W := ⟨h.m0, fun hd => h.ma hd, fun hd => h.mb hd, fun hd => h.m6 hd, fun hd => h.m9 hd, fun hd => h.m10 hd, fun hd => h.m11 hd, fun _ => rfl, fun hd => h.m13 hd, fun hd => h.m14 hd, fun hd => h.m15 hd⟩
theorem raM.op13 (h : raM sb n wq x x' v6 v9 ch po D vs W) : raM sb n wq x x' v6 v9 ch po (upd D 13 true) (upd vs 13 (.bool po)) W := ⟨h.m0, fun hd => h.ma hd, fun hd => h.mb hd, fun hd => h.m6 hd, fun hd => h.m9 hd, fun hd => h.m10 hd, fun hd => h.m11 hd, fun hd => h.m12 hd, fun _ => rfl, fun hd => h.m14 hd, fun hd => h.m15 hd⟩
theorem raM.op14 (h : raM sb n wq x x' v6 v9 ch po D vs W) : raM sb n wq x x' v6 v9 ch po (upd D 14 true) (upd vs 14 (.bool ch)) W := ⟨h.m0, fun hd => h.ma hd, fun hd => h.mb hd, fun hd => h.m6 hd, fun hd => h.m9 hd, fun hd => h.m10 hd, fun hd => h.m11 hd, fun hd => h.m12 hd, fun hd => h.m13 hd, fun _ => rfl, fun hd => h.m15 hd⟩
theorem raM.op15 (h : raM sb n wq x x' v6 v9 ch po D vs W) : raM sb n wq x x' v6 v9 ch po (upd D 15 true) (upd vs 15 (.bool po)) W := ⟨h.m0, fun hd => h.ma hd, fun hd => h.mb hd, fun hd => h.m6 hd, fun hd => h.m9 hd, fun hd => h.m10 hd, fun hd => h.m11 hd, fun hd => h.m12 hd, fun hd => h.m13 hd, fun hd => h.m14 hd, fun _ => rfl⟩
theorem raM.op10 (h : raM sb n wq x x' v6 v9 ch po D vs W) (hr : IRow W' sb n x') (k : Kept sb W W') : raM sb n wq x x' v6 v9 ch po (upd D 10 true) (upd vs 10 (tupB ch po)) W' := ⟨h.m0.trans k, fun hd => absurd (show true = false from hd) (by simp), fun _ => hr, fun hd => h.m6 hd, fun hd => h.m9 hd, fun _ => rfl, fun hd => h.m11 hd, fun hd => h.m12 hd, fun hd => h.m13 hd, fun hd => h.m14 hd, fun hd => h.m15 hd⟩
end
set_option maxHeartbeats 40000000 in
set_option maxRecDepth 100000 in
theorem rlst_any (nv : Nat) (p q : Option Addr) (m c d : Nat) (l : Nat → Cn) (acc : Nat → Bool) (w : World) (hp : SRow w p m 5 (cnC l)) (hq : BReads w q m acc) (hn : nv ≤ 64) (hm : m ≤ 200) (hc : ∀ k, k < m → okC nv (l k)) :
    Calls Try.prog 29 #[.int .i64 (nv : Int), .slice p m c, .slice q m d] w fun e w' => ((Feas nv m l acc ∧ ∃ b, e = .returned (.tuple #[.slice (some ⟨b, 0, none⟩) nv nv, .bool true]) ∧ w.heap.size ≤ b ∧ IRow w' b nv (lvF nv m l acc)) ∨ (¬ Feas nv m l acc ∧ e = .returned (.tuple #[.slice none 0 0, .bool false]))) ∧ Below w.heap.size w w' := by
  have HP := hide hp
  have HQ := hide hq
  have HC := hide hc
  have hmk : ∀ W : World, (Instr.makeSlice 24 (.int .i64 (nv : Int)) (.int .i64 (nv : Int))).run Try.prog W = .ok (.slice (some ⟨W.heap.size, 0, none⟩) nv nv) (W.alloc (.cells (ints nv (fun _ => 0)) 3)) := make_ints nv (by omega)
  have B1 : Hid (Below w.heap.size w (w.alloc (.cells (ints nv (fun _ => 0)) 3))) := (Below.refl _ _).alloc (Nat.le_refl _) _
  have X1 : Hid (IRow (w.alloc (.cells (ints nv (fun _ => 0)) 3)) w.heap.size nv (fun _ => 0)) := IRow.new w nv _
  have R1 : Hid (Rds nv m l acc (fun _ => 0) 0) := Rds.zero
  clear hp hq hc
  go_enter Try.func29, Try.ntmps29
  go_wp2_with fail
  clear hmk
  obtain ⟨rb, hrb⟩ : ∃ q, q = w.heap.size := ⟨_, rfl⟩
  rw [← hrb] at X1 ⊢
  have NE : Hid (w.heap.size ≤ rb) := Nat.le_of_eq hrb.symm
  clear hrb
  generalize w.alloc (.cells (ints nv fun _ => 0) 3) = w1 at *
  go_loopg [9] (nv + 3) (fun g1 vr wr => ∃ (r : Nat) (x : Nat → Int), vr = .int .i64 (r : Int) ∧ r ≤ nv + 2 ∧ nv + 2 - r < g1 ∧ Hid (Rds nv m l acc x r) ∧ Hid (Below w.heap.size w wr) ∧ Hid (IRow wr rb nv x))
  case atStart => exact ⟨0, _, by go_num, by omega, by omega, R1, B1, X1⟩
  case round =>
    clear R1 B1 X1
    obtain ⟨wo, rfl⟩ : ∃ wo : World, wo = wr := ⟨_, rfl⟩
    obtain ⟨r, x, rfl, hr, hg, RD, B, X⟩ := hrel
    have wnv : IntKind.i64.wrap ((nv : Int) + 1) = (nv : Int) + 1 := wr (by omega) (by omega)
    by_cases hlt : r ≤ nv + 1
    case neg =>
      have hltz : ¬ (r : Int) ≤ (nv : Int) + 1 := by omega
      have NF : Hid (¬ Feas nv m l acc) := RD.out.out (by omega)
      clear RD X
      go_wp2_with fail
      go_ret2
      exact ⟨Or.inr ⟨NF.out, rfl⟩, B.out⟩
    have hltz : (r : Int) ≤ (nv : Int) + 1 := by omega
    have D0 : Hid (Rnd nv m l acc x x 0 false) := RD.out.start
    have hr1 : (r : Int) + 1 ≤ 9223372036854775807 := by omega
    go_wp2_with fail
    go_loopg [10, 11] (m + 1) (fun g2 va vk wr => ∃ (k : Nat) (any : Bool) (x1 : Nat → Int), va = .bool any ∧ vk = .int .i64 (k : Int) ∧ k ≤ m ∧ m - k < g2 ∧ Hid (Rnd nv m l acc x x1 k any) ∧ Hid (Below w.heap.size w wr) ∧ Hid (IRow wr rb nv x1))
    case atStart => exact ⟨0, false, _, rfl, by go_num, by omega, by omega, D0, B, X⟩
    case round =>
      clear D0 B X
      obtain ⟨wi, rfl⟩ : ∃ wi : World, wi = wr := ⟨_, rfl⟩
      obtain ⟨k, any, x1, rfl, rfl, hk, hg2, RN, B, X⟩ := hrel
      by_cases hlk : k < m
      case neg =>
        have hlkz : ¬ (k : Int) < (m : Int) := by omega
        obtain rfl : m = k := by omega
        cases any
        · have FD : Hid (Feas nv m l acc ∧ IRow wi rb nv (lvF nv m l acc)) := ⟨⟨x1, (RN.out.found HC.out).1⟩, X.out.congr fun j hj => lvF_of (RN.out.found HC.out) hj⟩
          clear RN X RD
          go_wp2_with fail
          go_ret2
          exact ⟨Or.inl ⟨FD.out.1, rb, rfl, NE.out, FD.out.2⟩, B.out⟩
        · have R2 : Hid (Rds nv m l acc x1 (r + 1)) := RD.out.next HC.out RN.out
          clear RN RD
          go_wp2_with fail
          go_roundg (nv + 2 - r)
          case measure => omega
          case rel => exact ⟨r + 1, x1, by go_num, by omega, by omega, R2, B, X⟩
      have hlkz : (k : Int) < (m : Int) := by omega
      have hk0 : (0 : Int) ≤ (k : Int) := by omega
      obtain ⟨qb, qoff, rfl, hqb, hqc⟩ := (HQ.out.below B.out) (by omega)
      have ca : wi.cell? ⟨qb, qoff + k, none⟩ = some (.bool (acc k)) := hqc k hlk
      clear hqb hqc
      cases hac : acc k with
      | false =>
        rw [hac] at ca
        have RN2 := hide (RN.out.skip hac)
        clear RN hac
        go_wp2_with fail
        go_roundg (m - k)
        case measure => omega
        case rel => exact ⟨k + 1, any, x1, rfl, by go_num, by omega, by omega, RN2, B, X⟩
      | true =>
        rw [hac] at ca
        obtain ⟨pb, poff, rfl, hpb, hpc⟩ := (HP.out.below B.out) (by omega)
        have c0 : wi.cell? ⟨pb, poff + k * 5, none⟩ = some (.int .i64 (l k).a) := hpc k hlk 0 (by decide)
        have c1 : wi.cell? ⟨pb, poff + k * 5 + 1, none⟩ = some (.int .i64 (l k).b) := hpc k hlk 1 (by decide)
        have c2 : wi.cell? ⟨pb, poff + k * 5 + 2, none⟩ = some (.int .i64 (l k).rel) := hpc k hlk 2 (by decide)
        have c3 : wi.cell? ⟨pb, poff + k * 5 + 3, none⟩ = some (.int .i64 (l k).cc) := hpc k hlk 3 (by decide)
        have c4 : wi.cell? ⟨pb, poff + k * 5 + 4, none⟩ = some (.int .i64 (l k).st) := hpc k hlk 4 (by decide)
        obtain ⟨⟨⟨ka1, ka2⟩, kb1, kb2⟩, ⟨kr1, kr2⟩, ⟨kc1, kc2⟩, _⟩ := HC.out k hlk
        have XA : Hid (∀ o, IRow (wi.alloc o) rb nv x1) := fun o => X.out.alloc o
        have BA : Hid (∀ o, Below w.heap.size w (wi.alloc o)) := fun o => B.out.alloc B.out.size o
        have NX : Hid (wi.heap.size ≠ rb) := Nat.ne_of_gt X.out.lt
        have VB : Hid (∀ (y : Nat → Int) (i : Int), InB nv y → i < nv → 0 ≤ vF y i ∧ vF y i ≤ 1048576) := fun y i hy hi => by
          unfold vF
          split
          · omega
          · exact hy _ (by omega)
        have H1 : Hid (∀ (y : Nat → Int) (an : Bool), Rnd nv m l acc x y k an → (l k).rel ≠ 1 → (poF y (l k).a (vF y (l k).b + (l k).cc) = true → Rnd nv m l acc x (raF y (l k).a (vF y (l k).b + (l k).cc)) k (an || chF y (l k).a (vF y (l k).b + (l k).cc)) ∧ vF x (l k).b + (l k).cc ≤ vF (raF y (l k).a (vF y (l k).b + (l k).cc)) (l k).a) ∧ (poF y (l k).a (vF y (l k).b + (l k).cc) = false → ¬ Feas nv m l acc)) := fun y an h hr => by
          refine ⟨fun hp => ⟨h.half1 HC.out hlk hac hr hp, ?_⟩, fun hp => ra_none (asks1 HC.out h hlk hac hr) ka2 h.below hp⟩
          have a := ra_ge hp
          have b := h.vup kb2
          omega
        have H2 : Hid (∀ (y : Nat → Int) (an : Bool), Rnd nv m l acc x y k an → (l k).rel ≠ 0 → (poF y (l k).b (vF y (l k).a - (l k).cc) = true → Rnd nv m l acc x (raF y (l k).b (vF y (l k).a - (l k).cc)) k (an || chF y (l k).b (vF y (l k).a - (l k).cc)) ∧ vF x (l k).a - (l k).cc ≤ vF (raF y (l k).b (vF y (l k).a - (l k).cc)) (l k).b) ∧ (poF y (l k).b (vF y (l k).a - (l k).cc) = false → ¬ Feas nv m l acc)) := fun y an h hr => by
          refine ⟨fun hp => ⟨h.half2 HC.out hlk hac hr hp, ?_⟩, fun hp => ra_none (asks2 HC.out h hlk hac hr) kb2 h.below hp⟩
          have a := ra_ge hp
          have b := h.vup ka2
          omega
        have ST : Hid (∀ (y : Nat → Int) (an : Bool), Rnd nv m l acc x y k an → ((l k).rel ≠ 1 → vF x (l k).b + (l k).cc ≤ vF y (l k).a) → ((l k).rel ≠ 0 → vF x (l k).a - (l k).cc ≤ vF y (l k).b) → Rnd nv m l acc x y (k + 1) an) := fun y an h h1 h2 => h.step HC.out hlk h1 h2
        have MO : Hid (∀ (y : Nat → Int) (nn : Int), vF y (l k).a ≤ vF (raF y (l k).b nn) (l k).a) := fun y nn => ra_mono _ ka2
        clear hpc hpb X B hac
        generalize (l k).a = la at *
        generalize (l k).b = lb at *
        generalize (l k).rel = lr at *
        generalize (l k).cc = lc at *
        generalize (l k).st = ls at *
        have BB := hide (BA.out (.cells #[.int .i64 la, .int .i64 lb, .int .i64 lr, .int .i64 lc, .int .i64 ls] 40))
        have XX := hide (XA.out (.cells #[.int .i64 la, .int .i64 lb, .int .i64 lr, .int .i64 lc, .int .i64 ls] 40))
        have TB : Hid (Blk (wi.alloc (.cells #[.int .i64 la, .int .i64 lb, .int .i64 lr, .int .i64 lc, .int .i64 ls] 40)) wi.heap.size 40 [.int .i64 la, .int .i64 lb, .int .i64 lr, .int .i64 lc, .int .i64 ls]) := Blk.new rfl
        have t2 := TB.out.cell 2 rfl
        clear BA XA
        rcases (show lr = 0 ∨ lr = 1 ∨ lr = 2 by omega) with rfl | rfl | rfl
        · have hne : (0 : Int) ≠ 1 := by decide
          go_wp2_with fail
          clear c0 c1 c2 c3 c4 t2
          generalize (wi.alloc (.cells #[.int .i64 la, .int .i64 lb, .int .i64 0, .int .i64 lc, .int .i64 ls] 40)) = w3 at *
          generalize wi.heap.size = tb at *
          have vb := VB.out x1 lb RN.out.b (by omega)
          obtain ⟨vb1, vb2⟩ := vb
          have wnn : IntKind.i64.wrap (vF x1 lb + lc) = vF x1 lb + lc := wr (by omega) (by omega)
          have CV : Hid (∀ W', IRow W' rb nv x1 → Calls Try.prog 30 #[.slice (some ⟨rb, 0, none⟩) nv nv, .int .i64 lb] W' fun e w' => e = .returned (.int .i64 (vF x1 lb)) ∧ W' = w') := fun W' h => rval_any _ nv nv x1 lb W' h.reads (by omega)
          have CR : Hid (∀ W', IRow W' rb nv x1 → Calls Try.prog 37 #[.slice (some ⟨rb, 0, none⟩) nv nv, .int .i64 la, .int .i64 (vF x1 lb + lc)] W' fun e w' => e = .returned (.tuple #[.bool (chF x1 la (vF x1 lb + lc)), .bool (poF x1 la (vF x1 lb + lc))]) ∧ IRow w' rb nv (raF x1 la (vF x1 lb + lc)) ∧ Kept rb W' w') := fun W' h => rraise_any rb nv nv x1 la (vF x1 lb + lc) W' h (by omega)
          have HH := hide (H1.out x1 any RN.out hne)
          obtain ⟨x2, hx2⟩ : ∃ x2, x2 = raF x1 la (vF x1 lb + lc) := ⟨_, rfl⟩
          obtain ⟨ch, hch⟩ : ∃ ch, ch = chF x1 la (vF x1 lb + lc) := ⟨_, rfl⟩
          obtain ⟨po, hpo⟩ : ∃ po, po = poF x1 la (vF x1 lb + lc) := ⟨_, rfl⟩
          rw [← hx2, ← hch, ← hpo] at HH CR
          have HX2 := hide hx2
          clear hx2 hch hpo
          generalize vF x1 lb = vv at *
          refine MJ.wp_region_mixed (fun W' => W'.cell? ⟨tb, 0, none⟩ = some (.int .i64 la) ∧ W'.cell? ⟨tb, 1, none⟩ = some (.int .i64 lb) ∧ W'.cell? ⟨tb, 3, none⟩ = some (.int .i64 lc)) [6, 9, 10, 11, 12, 13, 14, 15] [(50, 6), (53, 9), (54, 10), (43, 11), (55, 12), (56, 13), (13, 14), (14, 15)] (raM rb nv w3 x1 x2 vv (vv + lc) ch po) (by kernel_rfl) (by kernel_rfl) (by simp) ?h0 (fun D D' vs vs' W hD h => h.ext hD) (fun D vs W i hM _ _ _ _ => ?hI) ?_
          case h0 => exact fun vs => ⟨(Kept.refl rb w3).drewN 1, fun _ => XX.out, fun h => Bool.noConfusion h, fun h => Bool.noConfusion h, fun h => Bool.noConfusion h, fun h => Bool.noConfusion h, fun h => Bool.noConfusion h, fun h => Bool.noConfusion h, fun h => Bool.noConfusion h, fun h => Bool.noConfusion h, fun h => Bool.noConfusion h⟩
          case hI =>
            have hb := TB.out.kept hM.m0 NX.out
            exact ⟨hb.cell 0 rfl, hb.cell 1 rfl, hb.cell 3 rfl⟩
          repeat (refine MJ.lex_calm rfl (by rfl) (fun K hK => ?_); apply Exists.intro; refine ⟨fun W' hW => ?_, ?_⟩; (dsimp only at hW; go_simp; exact rfl); go_simp; refine hK _ ?_; clear hK K)
          refine MJ.lex_made (by rfl) rfl ?_ ?_
          · rintro D vs W hM h4 hcl hdep
            have FIN := hide hM.op6
            have KV := hide (CV.out W (hM.ma (by
              cases h10 : D 10 with
              | false => rfl
              | true => rw [hcl 10 6 (by decide +kernel) h10] at h4; exact Bool.noConfusion h4)))
            clear hM
            simp [go_sem, evS, List.lookup]
            refine KV.out.mono ?_
            rintro e w' ⟨rfl, rfl⟩
            exact ⟨_, rfl, FIN.out⟩
          repeat (refine MJ.lex_calm rfl (by rfl) (fun K hK => ?_); apply Exists.intro; refine ⟨fun W' hW => ?_, ?_⟩; (dsimp only at hW; go_simp; exact rfl); go_simp; refine hK _ ?_; clear hK K)
          refine MJ.lex_made (by rfl) rfl ?_ ?_
          · rintro D vs W hM h4 hcl hdep
            have e6 := hM.m6 (hdep 6 (by decide +kernel))
            have FIN := hide hM.op9
            clear hM
            simp [go_sem, evS, List.lookup, e6, wnn]
            exact FIN.out
          refine MJ.lex_made (by rfl) rfl ?_ ?_
          · rintro D vs W hM h4 hcl hdep
            have e9 := hM.m9 (hdep 9 (by decide +kernel))
            have KR := hide (CR.out W (hM.ma h4))
            have MM := hide hM
            clear hM
            simp [go_sem, evS, List.lookup, e9]
            refine KR.out.mono ?_
            rintro e w' ⟨rfl, hr, hk⟩
            exact ⟨_, rfl, MM.out.op10 hr hk⟩
          refine MJ.lex_made (by rfl) rfl ?_ ?_
          · rintro D vs W hM h4 hcl hdep
            have e1 := hM.m10 (hdep 10 (by decide +kernel))
            have FIN := hide hM.op11
            clear hM
            simp [go_sem, evS, List.lookup, e1]
            exact FIN.out
          refine MJ.lex_made (by rfl) rfl ?_ ?_
          · rintro D vs W hM h4 hcl hdep
            have e1 := hM.m11 (hdep 11 (by decide +kernel))
            have FIN := hide hM.op12
            clear hM
            simp [go_sem, evS, List.lookup, e1]
            exact FIN.out
          refine MJ.lex_made (by rfl) rfl ?_ ?_
          · rintro D vs W hM h4 hcl hdep
            have e1 := hM.m11 (hdep 11 (by decide +kernel))
            have FIN := hide hM.op13
            clear hM
            simp [go_sem, evS, List.lookup, e1]
            exact FIN.out
          refine MJ.lex_made (by rfl) rfl ?_ ?_
          · rintro D vs W hM h4 hcl hdep
            have e1 := hM.m12 (hdep 12 (by decide +kernel))
            have FIN := hide hM.op14
            clear hM
            simp [go_sem, evS, List.lookup, e1]
            exact FIN.out
          refine MJ.lex_made (by rfl) rfl ?_ ?_
          · rintro D vs W hM h4 hcl hdep
            have e1 := hM.m13 (hdep 13 (by decide +kernel))
            have FIN := hide hM.op15
            clear hM
            simp [go_sem, evS, List.lookup, e1]
            exact FIN.out
          refine MJ.lex_nil ?_
          rintro vs w7 hM
          have e14 := hM.m14 rfl
          have e15 := hM.m15 rfl
          have X7 : Hid (IRow w7 rb nv x2) := hM.mb rfl
          have B7 : Hid (Below w.heap.size w w7) := hM.m0.belowW BB.out NE.out
          have T7 : Hid (Blk w7 tb 40 [.int .i64 la, .int .i64 lb, .int .i64 0, .int .i64 lc, .int .i64 ls]) := TB.out.kept hM.m0 NX.out
          clear hM CV CR BB XX TB wnn
          simp only [fillS, List.foldl_cons, List.foldl_nil, e14, e15]
          clear e14 e15
          generalize vs 6 = y6 at *
          generalize vs 9 = y9 at *
          generalize vs 10 = y10 at *
          generalize vs 11 = y11 at *
          generalize vs 12 = y12 at *
          generalize vs 13 = y13 at *
          go_simp
          cases po
          · have NF := hide (HH.out.2 rfl)
            clear HH RN
            go_wp2_with fail
            go_ret2
            exact ⟨Or.inr ⟨NF.out, rfl⟩, B7.out⟩
          obtain ⟨RNa, RNb⟩ := HH.out.1 rfl
          have RN2 := hide (ST.out x2 _ RNa (fun _ => by rw [HX2.out]; rw [HX2.out] at RNb; exact RNb) (fun q => absurd rfl q))
          have t2 := T7.out.cell 2 rfl
          clear HH RN RNa RNb HX2 H1 H2 ST MO
          cases any
          all_goals
            (try simp only [Bool.true_or, Bool.false_or] at RN2)
            go_wp2_with fail
            go_roundg (m - k)
            case measure => omega
            case rel => exact ⟨k + 1, _, _, rfl, by go_num, by omega, by omega, RN2, B7, X7⟩
        · have hne : (1 : Int) ≠ 0 := by decide
          go_wp2_with fail
          clear c0 c1 c2 c3 c4 t2
          generalize (wi.alloc (.cells #[.int .i64 la, .int .i64 lb, .int .i64 1, .int .i64 lc, .int .i64 ls] 40)) = w3 at *
          generalize wi.heap.size = tb at *
          have vb := VB.out x1 la RN.out.b (by omega)
          obtain ⟨vb1, vb2⟩ := vb
          have wnn : IntKind.i64.wrap (vF x1 la - lc) = vF x1 la - lc := wr (by omega) (by omega)
          have CV : Hid (∀ W', IRow W' rb nv x1 → Calls Try.prog 30 #[.slice (some ⟨rb, 0, none⟩) nv nv, .int .i64 la] W' fun e w' => e = .returned (.int .i64 (vF x1 la)) ∧ W' = w') := fun W' h => rval_any _ nv nv x1 la W' h.reads (by omega)
          have CR : Hid (∀ W', IRow W' rb nv x1 → Calls Try.prog 37 #[.slice (some ⟨rb, 0, none⟩) nv nv, .int .i64 lb, .int .i64 (vF x1 la - lc)] W' fun e w' => e = .returned (.tuple #[.bool (chF x1 lb (vF x1 la - lc)), .bool (poF x1 lb (vF x1 la - lc))]) ∧ IRow w' rb nv (raF x1 lb (vF x1 la - lc)) ∧ Kept rb W' w') := fun W' h => rraise_any rb nv nv x1 lb (vF x1 la - lc) W' h (by omega)
          have HH := hide (H2.out x1 any RN.out hne)
          obtain ⟨x2, hx2⟩ : ∃ x2, x2 = raF x1 lb (vF x1 la - lc) := ⟨_, rfl⟩
          obtain ⟨ch, hch⟩ : ∃ ch, ch = chF x1 lb (vF x1 la - lc) := ⟨_, rfl⟩
          obtain ⟨po, hpo⟩ : ∃ po, po = poF x1 lb (vF x1 la - lc) := ⟨_, rfl⟩
          rw [← hx2, ← hch, ← hpo] at HH CR
          have HX2 := hide hx2
          clear hx2 hch hpo
          generalize vF x1 la = vv at *
          refine MJ.wp_region_mixed (fun W' => W'.cell? ⟨tb, 0, none⟩ = some (.int .i64 la) ∧ W'.cell? ⟨tb, 1, none⟩ = some (.int .i64 lb) ∧ W'.cell? ⟨tb, 3, none⟩ = some (.int .i64 lc)) [6, 9, 10, 11, 12, 13, 14, 15] [(73, 6), (76, 9), (77, 10), (66, 11), (78, 12), (79, 13), (15, 14), (16, 15)] (raM rb nv w3 x1 x2 vv (vv - lc) ch po) (by kernel_rfl) (by kernel_rfl) (by simp) ?h0 (fun D D' vs vs' W hD h => h.ext hD) (fun D vs W i hM _ _ _ _ => ?hI) ?_
          case h0 => exact fun vs => ⟨(Kept.refl rb w3).drewN 1, fun _ => XX.out, fun h => Bool.noConfusion h, fun h => Bool.noConfusion h, fun h => Bool.noConfusion h, fun h => Bool.noConfusion h, fun h => Bool.noConfusion h, fun h => Bool.noConfusion h, fun h => Bool.noConfusion h, fun h => Bool.noConfusion h, fun h => Bool.noConfusion h⟩
          case hI =>
            have hb := TB.out.kept hM.m0 NX.out
            exact ⟨hb.cell 0 rfl, hb.cell 1 rfl, hb.cell 3 rfl⟩
          repeat (refine MJ.lex_calm rfl (by rfl) (fun K hK => ?_); apply Exists.intro; refine ⟨fun W' hW => ?_, ?_⟩; (dsimp only at hW; go_simp; exact rfl); go_simp; refine hK _ ?_; clear hK K)
          refine MJ.lex_made (by rfl) rfl ?_ ?_
          · rintro D vs W hM h4 hcl hdep
            have FIN := hide hM.op6
            have KV := hide (CV.out W (hM.ma (by
              cases h10 : D 10 with
              | false => rfl
              | true => rw [hcl 10 6 (by decide +kernel) h10] at h4; exact Bool.noConfusion h4)))
            clear hM
            simp [go_sem, evS, List.lookup]
            refine KV.out.mono ?_
            rintro e w' ⟨rfl, rfl⟩
            exact ⟨_, rfl, FIN.out⟩
          repeat (refine MJ.lex_calm rfl (by rfl) (fun K hK => ?_); apply Exists.intro; refine ⟨fun W' hW => ?_, ?_⟩; (dsimp only at hW; go_simp; exact rfl); go_simp; refine hK _ ?_; clear hK K)
          refine MJ.lex_made (by rfl) rfl ?_ ?_
          · rintro D vs W hM h4 hcl hdep
            have e6 := hM.m6 (hdep 6 (by decide +kernel))
            have FIN := hide hM.op9
            clear hM
            simp [go_sem, evS, List.lookup, e6, wnn]
            exact FIN.out
          refine MJ.lex_made (by rfl) rfl ?_ ?_
          · rintro D vs W hM h4 hcl hdep
            have e9 := hM.m9 (hdep 9 (by decide +kernel))
            have KR := hide (CR.out W (hM.ma h4))
            have MM := hide hM
            clear hM
            simp [go_sem, evS, List.lookup, e9]
            refine KR.out.mono ?_
            rintro e w' ⟨rfl, hr, hk⟩
            exact ⟨_, rfl, MM.out.op10 hr hk⟩
          refine MJ.lex_made (by rfl) rfl ?_ ?_
          · rintro D vs W hM h4 hcl hdep
            have e1 := hM.m10 (hdep 10 (by decide +kernel))
            have FIN := hide hM.op11
            clear hM
            simp [go_sem, evS, List.lookup, e1]
            exact FIN.out
          refine MJ.lex_made (by rfl) rfl ?_ ?_
          · rintro D vs W hM h4 hcl hdep
            have e1 := hM.m11 (hdep 11 (by decide +kernel))
            have FIN := hide hM.op12
            clear hM
            simp [go_sem, evS, List.lookup, e1]
            exact FIN.out
          refine MJ.lex_made (by rfl) rfl ?_ ?_
          · rintro D vs W hM h4 hcl hdep
            have e1 := hM.m11 (hdep 11 (by decide +kernel))
            have FIN := hide hM.op13
            clear hM
            simp [go_sem, evS, List.lookup, e1]
            exact FIN.out
          refine MJ.lex_made (by rfl) rfl ?_ ?_
          · rintro D vs W hM h4 hcl hdep
            have e1 := hM.m12 (hdep 12 (by decide +kernel))
            have FIN := hide hM.op14
            clear hM
            simp [go_sem, evS, List.lookup, e1]
            exact FIN.out
          refine MJ.lex_made (by rfl) rfl ?_ ?_
          · rintro D vs W hM h4 hcl hdep
            have e1 := hM.m13 (hdep 13 (by decide +kernel))
            have FIN := hide hM.op15
            clear hM
            simp [go_sem, evS, List.lookup, e1]
            exact FIN.out
          refine MJ.lex_nil ?_
          rintro vs w7 hM
          have e14 := hM.m14 rfl
          have e15 := hM.m15 rfl
          have X7 : Hid (IRow w7 rb nv x2) := hM.mb rfl
          have B7 : Hid (Below w.heap.size w w7) := hM.m0.belowW BB.out NE.out
          have T7 : Hid (Blk w7 tb 40 [.int .i64 la, .int .i64 lb, .int .i64 1, .int .i64 lc, .int .i64 ls]) := TB.out.kept hM.m0 NX.out
          clear hM CV CR BB XX TB wnn
          simp only [fillS, List.foldl_cons, List.foldl_nil, e14, e15]
          clear e14 e15
          generalize vs 6 = y6 at *
          generalize vs 9 = y9 at *
          generalize vs 10 = y10 at *
          generalize vs 11 = y11 at *
          generalize vs 12 = y12 at *
          generalize vs 13 = y13 at *
          go_simp
          cases po
          · have NF := hide (HH.out.2 rfl)
            clear HH RN
            go_wp2_with fail
            go_ret2
            exact ⟨Or.inr ⟨NF.out, rfl⟩, B7.out⟩
          obtain ⟨RNa, RNb⟩ := HH.out.1 rfl
          have RN2 := hide (ST.out x2 _ RNa (fun q => absurd rfl q) (fun _ => by rw [HX2.out]; rw [HX2.out] at RNb; exact RNb))
          clear HH RN RNa RNb HX2 H1 H2 ST MO
          cases any
          all_goals
            (try simp only [Bool.true_or, Bool.false_or] at RN2)
            go_wp2_with fail
            go_roundg (m - k)
            case measure => omega
            case rel => exact ⟨k + 1, _, _, rfl, by go_num, by omega, by omega, RN2, B7, X7⟩
        · have hne1 : (2 : Int) ≠ 1 := by decide
          have hneB : (2 : Int) ≠ 0 := by decide
          have hne := hne1
          go_wp2_with fail
          clear c0 c1 c2 c3 c4 t2
          generalize (wi.alloc (.cells #[.int .i64 la, .int .i64 lb, .int .i64 2, .int .i64 lc, .int .i64 ls] 40)) = w3 at *
          generalize wi.heap.size = tb at *
          have vb := VB.out x1 lb RN.out.b (by omega)
          obtain ⟨vb1, vb2⟩ := vb
          have wnn : IntKind.i64.wrap (vF x1 lb + lc) = vF x1 lb + lc := wr (by omega) (by omega)
          have CV : Hid (∀ W', IRow W' rb nv x1 → Calls Try.prog 30 #[.slice (some ⟨rb, 0, none⟩) nv nv, .int .i64 lb] W' fun e w' => e = .returned (.int .i64 (vF x1 lb)) ∧ W' = w') := fun W' h => rval_any _ nv nv x1 lb W' h.reads (by omega)
          have CR : Hid (∀ W', IRow W' rb nv x1 → Calls Try.prog 37 #[.slice (some ⟨rb, 0, none⟩) nv nv, .int .i64 la, .int .i64 (vF x1 lb + lc)] W' fun e w' => e = .returned (.tuple #[.bool (chF x1 la (vF x1 lb + lc)), .bool (poF x1 la (vF x1 lb + lc))]) ∧ IRow w' rb nv (raF x1 la (vF x1 lb + lc)) ∧ Kept rb W' w') := fun W' h => rraise_any rb nv nv x1 la (vF x1 lb + lc) W' h (by omega)
          have HH := hide (H1.out x1 any RN.out hne)
          obtain ⟨x2, hx2⟩ : ∃ x2, x2 = raF x1 la (vF x1 lb + lc) := ⟨_, rfl⟩
          obtain ⟨ch1, hch⟩ : ∃ ch1, ch1 = chF x1 la (vF x1 lb + lc) := ⟨_, rfl⟩
          obtain ⟨po, hpo⟩ : ∃ po, po = poF x1 la (vF x1 lb + lc) := ⟨_, rfl⟩
          rw [← hx2, ← hch, ← hpo] at HH CR
          have HX2 := hide hx2
          clear hx2 hch hpo
          generalize vF x1 lb = vv at *
          refine MJ.wp_region_mixed (fun W' => W'.cell? ⟨tb, 0, none⟩ = some (.int .i64 la) ∧ W'.cell? ⟨tb, 1, none⟩ = some (.int .i64 lb) ∧ W'.cell? ⟨tb, 3, none⟩ = some (.int .i64 lc)) [6, 9, 10, 11, 12, 13, 14, 15] [(50, 6), (53, 9), (54, 10), (43, 11), (55, 12), (56, 13), (13, 14), (14, 15)] (raM rb nv w3 x1 x2 vv (vv + lc) ch1 po) (by kernel_rfl) (by kernel_rfl) (by simp) ?h0 (fun D D' vs vs' W hD h => h.ext hD) (fun D vs W i hM _ _ _ _ => ?hI) ?_
          case h0 => exact fun vs => ⟨(Kept.refl rb w3).drewN 1, fun _ => XX.out, fun h => Bool.noConfusion h, fun h => Bool.noConfusion h, fun h => Bool.noConfusion h, fun h => Bool.noConfusion h, fun h => Bool.noConfusion h, fun h => Bool.noConfusion h, fun h => Bool.noConfusion h, fun h => Bool.noConfusion h, fun h => Bool.noConfusion h⟩
          case hI =>
            have hb := TB.out.kept hM.m0 NX.out
            exact ⟨hb.cell 0 rfl, hb.cell 1 rfl, hb.cell 3 rfl⟩
          repeat (refine MJ.lex_calm rfl (by rfl) (fun K hK => ?_); apply Exists.intro; refine ⟨fun W' hW => ?_, ?_⟩; (dsimp only at hW; go_simp; exact rfl); go_simp; refine hK _ ?_; clear hK K)
          refine MJ.lex_made (by rfl) rfl ?_ ?_
          · rintro D vs W hM h4 hcl hdep
            have FIN := hide hM.op6
            have KV := hide (CV.out W (hM.ma (by
              cases h10 : D 10 with
              | false => rfl
              | true => rw [hcl 10 6 (by decide +kernel) h10] at h4; exact Bool.noConfusion h4)))
            clear hM
            simp [go_sem, evS, List.lookup]
            refine KV.out.mono ?_
            rintro e w' ⟨rfl, rfl⟩
            exact ⟨_, rfl, FIN.out⟩
          repeat (refine MJ.lex_calm rfl (by rfl) (fun K hK => ?_); apply Exists.intro; refine ⟨fun W' hW => ?_, ?_⟩; (dsimp only at hW; go_simp; exact rfl); go_simp; refine hK _ ?_; clear hK K)
          refine MJ.lex_made (by rfl) rfl ?_ ?_
          · rintro D vs W hM h4 hcl hdep
            have e6 := hM.m6 (hdep 6 (by decide +kernel))
            have FIN := hide hM.op9
            clear hM
            simp [go_sem, evS, List.lookup, e6, wnn]
            exact FIN.out
          refine MJ.lex_made (by rfl) rfl ?_ ?_
          · rintro D vs W hM h4 hcl hdep
            have e9 := hM.m9 (hdep 9 (by decide +kernel))
            have KR := hide (CR.out W (hM.ma h4))
            have MM := hide hM
            clear hM
            simp [go_sem, evS, List.lookup, e9]
            refine KR.out.mono ?_
            rintro e w' ⟨rfl, hr, hk⟩
            exact ⟨_, rfl, MM.out.op10 hr hk⟩
          refine MJ.lex_made (by rfl) rfl ?_ ?_
          · rintro D vs W hM h4 hcl hdep
            have e1 := hM.m10 (hdep 10 (by decide +kernel))
            have FIN := hide hM.op11
            clear hM
            simp [go_sem, evS, List.lookup, e1]
            exact FIN.out
          refine MJ.lex_made (by rfl) rfl ?_ ?_
          · rintro D vs W hM h4 hcl hdep
            have e1 := hM.m11 (hdep 11 (by decide +kernel))
            have FIN := hide hM.op12
            clear hM
            simp [go_sem, evS, List.lookup, e1]
            exact FIN.out
          refine MJ.lex_made (by rfl) rfl ?_ ?_
          · rintro D vs W hM h4 hcl hdep
            have e1 := hM.m11 (hdep 11 (by decide +kernel))
            have FIN := hide hM.op13
            clear hM
            simp [go_sem, evS, List.lookup, e1]
            exact FIN.out
          refine MJ.lex_made (by rfl) rfl ?_ ?_
          · rintro D vs W hM h4 hcl hdep
            have e1 := hM.m12 (hdep 12 (by decide +kernel))
            have FIN := hide hM.op14
            clear hM
            simp [go_sem, evS, List.lookup, e1]
            exact FIN.out
          refine MJ.lex_made (by rfl) rfl ?_ ?_
          · rintro D vs W hM h4 hcl hdep
            have e1 := hM.m13 (hdep 13 (by decide +kernel))
            have FIN := hide hM.op15
            clear hM
            simp [go_sem, evS, List.lookup, e1]
            exact FIN.out
          refine MJ.lex_nil ?_
          rintro vs w7 hM
          have e14 := hM.m14 rfl
          have e15 := hM.m15 rfl
          have X7 : Hid (IRow w7 rb nv x2) := hM.mb rfl
          have B7 : Hid (Below w.heap.size w w7) := hM.m0.belowW BB.out NE.out
          have T7 : Hid (Blk w7 tb 40 [.int .i64 la, .int .i64 lb, .int .i64 2, .int .i64 lc, .int .i64 ls]) := TB.out.kept hM.m0 NX.out
          clear hM CV CR BB XX TB wnn
          simp only [fillS, List.foldl_cons, List.foldl_nil, e14, e15]
          clear e14 e15
          generalize vs 6 = y6 at *
          generalize vs 9 = y9 at *
          generalize vs 10 = y10 at *
          generalize vs 11 = y11 at *
          generalize vs 12 = y12 at *
          generalize vs 13 = y13 at *
          go_simp
          cases po
          · have NF := hide (HH.out.2 rfl)
            clear HH RN
            go_wp2_with fail
            go_ret2
            exact ⟨Or.inr ⟨NF.out, rfl⟩, B7.out⟩
          obtain ⟨RNa, RNb⟩ := HH.out.1 rfl
          obtain ⟨x3, hx3⟩ : ∃ x3, x3 = x2 := ⟨_, rfl⟩
          rw [← hx3] at RNa X7 RNb
          have H1K : Hid (vF x lb + lc ≤ vF x3 la) := RNb
          have MO3 := hide (MO.out x3 (vF x3 la - lc))
          have t2 := T7.out.cell 2 rfl
          clear HH RN RNb HX2 hx3
          have hne2 : ((2 : Int) != 0) = true := rfl
          have BB := B7
          have XX := X7
          have TB := T7
          clear B7 X7 T7
          have hne := hneB
          cases any
          · simp only [Bool.false_or] at RNa
            have RN := hide RNa
            clear RNa
            go_wp2_with fail
            clear t2
            have vb := VB.out x3 la RN.out.b (by omega)
            obtain ⟨vb1, vb2⟩ := vb
            have wnn : IntKind.i64.wrap (vF x3 la - lc) = vF x3 la - lc := wr (by omega) (by omega)
            have CV : Hid (∀ W', IRow W' rb nv x3 → Calls Try.prog 30 #[.slice (some ⟨rb, 0, none⟩) nv nv, .int .i64 la] W' fun e w' => e = .returned (.int .i64 (vF x3 la)) ∧ W' = w') := fun W' h => rval_any _ nv nv x3 la W' h.reads (by omega)
            have CR : Hid (∀ W', IRow W' rb nv x3 → Calls Try.prog 37 #[.slice (some ⟨rb, 0, none⟩) nv nv, .int .i64 lb, .int .i64 (vF x3 la - lc)] W' fun e w' => e = .returned (.tuple #[.bool (chF x3 lb (vF x3 la - lc)), .bool (poF x3 lb (vF x3 la - lc))]) ∧ IRow w' rb nv (raF x3 lb (vF x3 la - lc)) ∧ Kept rb W' w') := fun W' h => rraise_any rb nv nv x3 lb (vF x3 la - lc) W' h (by omega)
            have HH := hide (H2.out x3 ch1 RN.out hne)
            obtain ⟨x2, hx2⟩ : ∃ x2, x2 = raF x3 lb (vF x3 la - lc) := ⟨_, rfl⟩
            obtain ⟨ch, hch⟩ : ∃ ch, ch = chF x3 lb (vF x3 la - lc) := ⟨_, rfl⟩
            obtain ⟨po, hpo⟩ : ∃ po, po = poF x3 lb (vF x3 la - lc) := ⟨_, rfl⟩
            rw [← hx2, ← hch, ← hpo] at HH CR
            have HX2 := hide hx2
            clear hx2 hch hpo
            generalize vF x3 la = vv at *
            refine MJ.wp_region_mixed (fun W' => W'.cell? ⟨tb, 0, none⟩ = some (.int .i64 la) ∧ W'.cell? ⟨tb, 1, none⟩ = some (.int .i64 lb) ∧ W'.cell? ⟨tb, 3, none⟩ = some (.int .i64 lc)) [6, 9, 10, 11, 12, 13, 14, 15] [(73, 6), (76, 9), (77, 10), (66, 11), (78, 12), (79, 13), (15, 14), (16, 15)] (raM rb nv w7 x3 x2 vv (vv - lc) ch po) (by kernel_rfl) (by kernel_rfl) (by simp) ?h0 (fun D D' vs vs' W hD h => h.ext hD) (fun D vs W i hM _ _ _ _ => ?hI) ?_
            case h0 => exact fun vs => ⟨(Kept.refl rb w7).drewN 1, fun _ => XX.out, fun h => Bool.noConfusion h, fun h => Bool.noConfusion h, fun h => Bool.noConfusion h, fun h => Bool.noConfusion h, fun h => Bool.noConfusion h, fun h => Bool.noConfusion h, fun h => Bool.noConfusion h, fun h => Bool.noConfusion h, fun h => Bool.noConfusion h⟩
            case hI =>
              have hb := TB.out.kept hM.m0 NX.out
              exact ⟨hb.cell 0 rfl, hb.cell 1 rfl, hb.cell 3 rfl⟩
            repeat (refine MJ.lex_calm rfl (by rfl) (fun K hK => ?_); apply Exists.intro; refine ⟨fun W' hW => ?_, ?_⟩; (dsimp only at hW; go_simp; exact rfl); go_simp; refine hK _ ?_; clear hK K)
            refine MJ.lex_made (by rfl) rfl ?_ ?_
            · rintro D vs W hM h4 hcl hdep
              have FIN := hide hM.op6
              have KV := hide (CV.out W (hM.ma (by
                cases h10 : D 10 with
                | false => rfl
                | true => rw [hcl 10 6 (by decide +kernel) h10] at h4; exact Bool.noConfusion h4)))
              clear hM
              simp [go_sem, evS, List.lookup]
              refine KV.out.mono ?_
              rintro e w' ⟨rfl, rfl⟩
              exact ⟨_, rfl, FIN.out⟩
            repeat (refine MJ.lex_calm rfl (by rfl) (fun K hK => ?_); apply Exists.intro; refine ⟨fun W' hW => ?_, ?_⟩; (dsimp only at hW; go_simp; exact rfl); go_simp; refine hK _ ?_; clear hK K)
            refine MJ.lex_made (by rfl) rfl ?_ ?_
            · rintro D vs W hM h4 hcl hdep
              have e6 := hM.m6 (hdep 6 (by decide +kernel))
              have FIN := hide hM.op9
              clear hM
              simp [go_sem, evS, List.lookup, e6, wnn]
              exact FIN.out
            refine MJ.lex_made (by rfl) rfl ?_ ?_
            · rintro D vs W hM h4 hcl hdep
              have e9 := hM.m9 (hdep 9 (by decide +kernel))
              have KR := hide (CR.out W (hM.ma h4))
              have MM := hide hM
              clear hM
              simp [go_sem, evS, List.lookup, e9]
              refine KR.out.mono ?_
              rintro e w' ⟨rfl, hr, hk⟩
              exact ⟨_, rfl, MM.out.op10 hr hk⟩
            refine MJ.lex_made (by rfl) rfl ?_ ?_
            · rintro D vs W hM h4 hcl hdep
              have e1 := hM.m10 (hdep 10 (by decide +kernel))
              have FIN := hide hM.op11
              clear hM
              simp [go_sem, evS, List.lookup, e1]
              exact FIN.out
            refine MJ.lex_made (by rfl) rfl ?_ ?_
            · rintro D vs W hM h4 hcl hdep
              have e1 := hM.m11 (hdep 11 (by decide +kernel))
              have FIN := hide hM.op12
              clear hM
              simp [go_sem, evS, List.lookup, e1]
              exact FIN.out
            refine MJ.lex_made (by rfl) rfl ?_ ?_
            · rintro D vs W hM h4 hcl hdep
              have e1 := hM.m11 (hdep 11 (by decide +kernel))
              have FIN := hide hM.op13
              clear hM
              simp [go_sem, evS, List.lookup, e1]
              exact FIN.out
            refine MJ.lex_made (by rfl) rfl ?_ ?_
            · rintro D vs W hM h4 hcl hdep
              have e1 := hM.m12 (hdep 12 (by decide +kernel))
              have FIN := hide hM.op14
              clear hM
              simp [go_sem, evS, List.lookup, e1]
              exact FIN.out
            refine MJ.lex_made (by rfl) rfl ?_ ?_
            · rintro D vs W hM h4 hcl hdep
              have e1 := hM.m13 (hdep 13 (by decide +kernel))
              have FIN := hide hM.op15
              clear hM
              simp [go_sem, evS, List.lookup, e1]
              exact FIN.out
            refine MJ.lex_nil ?_
            rintro vs w9 hM
            have e14 := hM.m14 rfl
            have e15 := hM.m15 rfl
            have X7 : Hid (IRow w9 rb nv x2) := hM.mb rfl
            have B7 : Hid (Below w.heap.size w w9) := hM.m0.belowW BB.out NE.out
            have T7 : Hid (Blk w9 tb 40 [.int .i64 la, .int .i64 lb, .int .i64 2, .int .i64 lc, .int .i64 ls]) := TB.out.kept hM.m0 NX.out
            clear hM CV CR BB XX TB wnn
            simp only [fillS, List.foldl_cons, List.foldl_nil, e14, e15]
            clear e14 e15
            generalize vs 6 = y6 at *
            generalize vs 9 = y9 at *
            generalize vs 10 = y10 at *
            generalize vs 11 = y11 at *
            generalize vs 12 = y12 at *
            generalize vs 13 = y13 at *
            go_simp
            cases po
            · have NF := hide (HH.out.2 rfl)
              clear HH RN
              go_wp2_with fail
              go_ret2
              exact ⟨Or.inr ⟨NF.out, rfl⟩, B7.out⟩
            obtain ⟨RNc, RNd⟩ := HH.out.1 rfl
            have RN2 := hide (ST.out x2 _ RNc (fun _ => by rw [HX2.out]; exact Int.le_trans H1K.out MO3.out) (fun _ => by rw [HX2.out]; rw [HX2.out] at RNd; exact RNd))
            clear HH RN RNc RNd HX2 H1 H2 ST MO H1K MO3
            cases ch1
            all_goals
              (try simp only [Bool.true_or, Bool.false_or] at RN2)
              go_wp2_with fail
              go_roundg (m - k)
              case measure => omega
              case rel => exact ⟨k + 1, _, _, rfl, by go_num, by omega, by omega, RN2, B7, X7⟩
          · simp only [Bool.true_or] at RNa
            have RN := hide RNa
            clear RNa
            go_wp2_with fail
            clear t2
            have vb := VB.out x3 la RN.out.b (by omega)
            obtain ⟨vb1, vb2⟩ := vb
            have wnn : IntKind.i64.wrap (vF x3 la - lc) = vF x3 la - lc := wr (by omega) (by omega)
            have CV : Hid (∀ W', IRow W' rb nv x3 → Calls Try.prog 30 #[.slice (some ⟨rb, 0, none⟩) nv nv, .int .i64 la] W' fun e w' => e = .returned (.int .i64 (vF x3 la)) ∧ W' = w') := fun W' h => rval_any _ nv nv x3 la W' h.reads (by omega)
            have CR : Hid (∀ W', IRow W' rb nv x3 → Calls Try.prog 37 #[.slice (some ⟨rb, 0, none⟩) nv nv, .int .i64 lb, .int .i64 (vF x3 la - lc)] W' fun e w' => e = .returned (.tuple #[.bool (chF x3 lb (vF x3 la - lc)), .bool (poF x3 lb (vF x3 la - lc))]) ∧ IRow w' rb nv (raF x3 lb (vF x3 la - lc)) ∧ Kept rb W' w') := fun W' h => rraise_any rb nv nv x3 lb (vF x3 la - lc) W' h (by omega)
            have HH := hide (H2.out x3 true RN.out hne)
            obtain ⟨x2, hx2⟩ : ∃ x2, x2 = raF x3 lb (vF x3 la - lc) := ⟨_, rfl⟩
            obtain ⟨ch, hch⟩ : ∃ ch, ch = chF x3 lb (vF x3 la - lc) := ⟨_, rfl⟩
            obtain ⟨po, hpo⟩ : ∃ po, po = poF x3 lb (vF x3 la - lc) := ⟨_, rfl⟩
            rw [← hx2, ← hch, ← hpo] at HH CR
            have HX2 := hide hx2
            clear hx2 hch hpo
            generalize vF x3 la = vv at *
            refine MJ.wp_region_mixed (fun W' => W'.cell? ⟨tb, 0, none⟩ = some (.int .i64 la) ∧ W'.cell? ⟨tb, 1, none⟩ = some (.int .i64 lb) ∧ W'.cell? ⟨tb, 3, none⟩ = some (.int .i64 lc)) [6, 9, 10, 11, 12, 13, 14, 15] [(73, 6), (76, 9), (77, 10), (66, 11), (78, 12), (79, 13), (15, 14), (16, 15)] (raM rb nv w7 x3 x2 vv (vv - lc) ch po) (by kernel_rfl) (by kernel_rfl) (by simp) ?h0 (fun D D' vs vs' W hD h => h.ext hD) (fun D vs W i hM _ _ _ _ => ?hI) ?_
            case h0 => exact fun vs => ⟨(Kept.refl rb w7).drewN 1, fun _ => XX.out, fun h => Bool.noConfusion h, fun h => Bool.noConfusion h, fun h => Bool.noConfusion h, fun h => Bool.noConfusion h, fun h => Bool.noConfusion h, fun h => Bool.noConfusion h, fun h => Bool.noConfusion h, fun h => Bool.noConfusion h, fun h => Bool.noConfusion h⟩
            case hI =>
              have hb := TB.out.kept hM.m0 NX.out
              exact ⟨hb.cell 0 rfl, hb.cell 1 rfl, hb.cell 3 rfl⟩
            repeat (refine MJ.lex_calm rfl (by rfl) (fun K hK => ?_); apply Exists.intro; refine ⟨fun W' hW => ?_, ?_⟩; (dsimp only at hW; go_simp; exact rfl); go_simp; refine hK _ ?_; clear hK K)
            refine MJ.lex_made (by rfl) rfl ?_ ?_
            · rintro D vs W hM h4 hcl hdep
              have FIN := hide hM.op6
              have KV := hide (CV.out W (hM.ma (by
                cases h10 : D 10 with
                | false => rfl
                | true => rw [hcl 10 6 (by decide +kernel) h10] at h4; exact Bool.noConfusion h4)))
              clear hM
              simp [go_sem, evS, List.lookup]
              refine KV.out.mono ?_
              rintro e w' ⟨rfl, rfl⟩
              exact ⟨_, rfl, FIN.out⟩
            repeat (refine MJ.lex_calm rfl (by rfl) (fun K hK => ?_); apply Exists.intro; refine ⟨fun W' hW => ?_, ?_⟩; (dsimp only at hW; go_simp; exact rfl); go_simp; refine hK _ ?_; clear hK K)
            refine MJ.lex_made (by rfl) rfl ?_ ?_
            · rintro D vs W hM h4 hcl hdep
              have e6 := hM.m6 (hdep 6 (by decide +kernel))
              have FIN := hide hM.op9
              clear hM
              simp [go_sem, evS, List.lookup, e6, wnn]
              exact FIN.out
            refine MJ.lex_made (by rfl) rfl ?_ ?_
            · rintro D vs W hM h4 hcl hdep
              have e9 := hM.m9 (hdep 9 (by decide +kernel))
              have KR := hide (CR.out W (hM.ma h4))
              have MM := hide hM
              clear hM
              simp [go_sem, evS, List.lookup, e9]
              refine KR.out.mono ?_
              rintro e w' ⟨rfl, hr, hk⟩
              exact ⟨_, rfl, MM.out.op10 hr hk⟩
            refine MJ.lex_made (by rfl) rfl ?_ ?_
            · rintro D vs W hM h4 hcl hdep
              have e1 := hM.m10 (hdep 10 (by decide +kernel))
              have FIN := hide hM.op11
              clear hM
              simp [go_sem, evS, List.lookup, e1]
              exact FIN.out
            refine MJ.lex_made (by rfl) rfl ?_ ?_
            · rintro D vs W hM h4 hcl hdep
              have e1 := hM.m11 (hdep 11 (by decide +kernel))
              have FIN := hide hM.op12
              clear hM
              simp [go_sem, evS, List.lookup, e1]
              exact FIN.out
            refine MJ.lex_made (by rfl) rfl ?_ ?_
            · rintro D vs W hM h4 hcl hdep
              have e1 := hM.m11 (hdep 11 (by decide +kernel))
              have FIN := hide hM.op13
              clear hM
              simp [go_sem, evS, List.lookup, e1]
              exact FIN.out
            refine MJ.lex_made (by rfl) rfl ?_ ?_
            · rintro D vs W hM h4 hcl hdep
              have e1 := hM.m12 (hdep 12 (by decide +kernel))
              have FIN := hide hM.op14
              clear hM
              simp [go_sem, evS, List.lookup, e1]
              exact FIN.out
            refine MJ.lex_made (by rfl) rfl ?_ ?_
            · rintro D vs W hM h4 hcl hdep
              have e1 := hM.m13 (hdep 13 (by decide +kernel))
              have FIN := hide hM.op15
              clear hM
              simp [go_sem, evS, List.lookup, e1]
              exact FIN.out
            refine MJ.lex_nil ?_
            rintro vs w9 hM
            have e14 := hM.m14 rfl
            have e15 := hM.m15 rfl
            have X7 : Hid (IRow w9 rb nv x2) := hM.mb rfl
            have B7 : Hid (Below w.heap.size w w9) := hM.m0.belowW BB.out NE.out
            have T7 : Hid (Blk w9 tb 40 [.int .i64 la, .int .i64 lb, .int .i64 2, .int .i64 lc, .int .i64 ls]) := TB.out.kept hM.m0 NX.out
            clear hM CV CR BB XX TB wnn
            simp only [fillS, List.foldl_cons, List.foldl_nil, e14, e15]
            clear e14 e15
            generalize vs 6 = y6 at *
            generalize vs 9 = y9 at *
            generalize vs 10 = y10 at *
            generalize vs 11 = y11 at *
            generalize vs 12 = y12 at *
            generalize vs 13 = y13 at *
            go_simp
            cases po
            · have NF := hide (HH.out.2 rfl)
              clear HH RN
              go_wp2_with fail
              go_ret2
              exact ⟨Or.inr ⟨NF.out, rfl⟩, B7.out⟩
            obtain ⟨RNc, RNd⟩ := HH.out.1 rfl
            have RN2 := hide (ST.out x2 _ RNc (fun _ => by rw [HX2.out]; exact Int.le_trans H1K.out MO3.out) (fun _ => by rw [HX2.out]; rw [HX2.out] at RNd; exact RNd))
            clear HH RN RNc RNd HX2 H1 H2 ST MO H1K MO3
            (try simp only [Bool.true_or, Bool.false_or] at RN2)
            go_wp2_with fail
            go_roundg (m - k)
            case measure => omega
            case rel => exact ⟨k + 1, _, _, rfl, by go_num, by omega, by omega, RN2, B7, X7⟩
end Go.Proofs.Ytdoncogkepopiaa
