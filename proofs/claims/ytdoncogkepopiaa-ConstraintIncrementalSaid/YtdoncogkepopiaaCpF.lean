/- Solve and New of package constraint answer as the laws ask; no condition. -/
import Derived.Test.YtdoncogkepopiaaCpE
namespace Go.Proofs.Ytdoncogkepopiaa
open Go.RowKit Go.Sort Go.Shelf
set_option linter.unusedVariables false
set_option linter.unusedSimpArgs false

theorem ck_er {vars : Int} {m : Nat} {l : Nat → Cn} (h : ¬ ckF vars m l = 0) : erS vars m l = ckF vars m l := by
  unfold ckF at h ⊢
  unfold erS
  by_cases h1 : vars < 0 ∨ 64 < vars
  · rw [if_pos h1, if_pos h1]
  · rw [if_neg h1] at h ⊢
    rw [if_neg h1]
    by_cases h2 : 200 < m
    · rw [if_pos h2, if_pos h2]
    · rw [if_neg h2] at h ⊢
      rw [if_neg h2]
      by_cases h3 : ¬ (∀ k, k < m → okC vars (l k))
      · rw [if_pos h3, if_pos h3]
      · rw [if_neg h3] at h
        exact absurd rfl h
theorem ck_ok {vars : Int} {m : Nat} {l : Nat → Cn} (h : ckF vars m l = 0) : (0 ≤ vars ∧ vars ≤ 64) ∧ m ≤ 200 ∧ ∀ k, k < m → okC vars (l k) := by
  unfold ckF at h
  by_cases h1 : vars < 0 ∨ 64 < vars
  · rw [if_pos h1] at h; omega
  · rw [if_neg h1] at h
    by_cases h2 : 200 < m
    · rw [if_pos h2] at h; omega
    · rw [if_neg h2] at h
      by_cases h3 : ¬ (∀ k, k < m → okC vars (l k))
      · rw [if_pos h3] at h; omega
      · exact ⟨by omega, by omega, Classical.not_not.1 h3⟩
/-- What a call of Solve has returned, and that it is new memory. -/
def SoF (vars : Int) (m : Nat) (l : Nat → Cn) (w : World) (e : Ending) (w' : World) : Prop :=
  (erS vars m l = 0 → ∃ q1 c1 q2 c2 q3 c3, e = .returned (.tuple #[sysV vars q1 m c1 q2 m c2 q3 vars.toNat c3, .int .i64 0]) ∧ m ≤ c1 ∧ SRow w' q1 m 5 (cnC l) ∧ BReads w' q2 m (acB vars.toNat m l 3) ∧ Reads w' q3 vars.toNat (lvF vars.toNat m l (acB vars.toNat m l 3)) ∧ (∀ ad, q1 = some ad → w.heap.size ≤ ad.block) ∧ (∀ ad, q2 = some ad → w.heap.size ≤ ad.block) ∧ (0 < vars.toNat → ∀ ad, q3 = some ad → w.heap.size ≤ ad.block)) ∧
  (¬ erS vars m l = 0 → e = .returned (.tuple #[sysZ, .int .i64 (erS vars m l)])) ∧ Below w.heap.size w w'
theorem SoF.post {vars : Int} {m : Nat} {l : Nat → Cn} {w w' : World} {e : Ending} (h : SoF vars m l w e w') : SoPost vars m l w e w' :=
  ⟨fun q => by obtain ⟨q1, c1, q2, c2, q3, c3, h1, h2, h3, h4, h5, _⟩ := h.1 q; exact ⟨q1, c1, q2, c2, q3, c3, h1, h2, h3, h4, h5⟩, h.2⟩
theorem sof_err {vars : Int} {m : Nat} {l : Nat → Cn} {w w' : World} {er : Int} (h : erS vars m l = er) (h0 : er ≠ 0) (hB : Below w.heap.size w w') : SoF vars m l w (.returned (.tuple #[sysZ, .int .i64 er])) w' :=
  ⟨fun q => absurd (h ▸ q) h0, fun _ => by rw [h], hB⟩
def KSoF (k : Nat) : Prop := ∀ (vars : Int) (p : Option Addr) (m c : Nat) (l : Nat → Cn) (w : World), SRow w p m 5 (cnC l) → m ≤ c → m ≤ 100000 →
  Calls Try.prog k #[.int .i64 vars, .slice p m c] w (SoF vars m l w)
theorem so_ok {n m sk hb vb c1 c3 : Nat} {l : Nat → Cn} {w W : World} {q1 q3 : Option Addr} {y : Nat → Int} (hE : erS (n : Int) m l = 0) (hB : Below w.heap.size w W) (hsk : w.heap.size ≤ sk) (hc1 : m ≤ c1) (h1 : SRow W q1 m 5 (cnC l)) (hq1 : ∀ ad, q1 = some ad → ad.block ≠ sk) (h2 : BRow W hb m (acB n m l 3)) (hne : hb ≠ sk) (h3 : CRw W vb (n + 1) (shF y)) (hv : vb ≠ sk) (hq3 : 0 < n → q3 = some ⟨vb, 1, none⟩) (hl : Lst n m l (acB n m l 3) y) (f1 : ∀ ad, q1 = some ad → w.heap.size ≤ ad.block) (f2 : w.heap.size ≤ hb) (f3 : w.heap.size ≤ vb) (a b c d : Value) :
    SoF (n : Int) m l w (.returned (.tuple #[sysV (n : Int) q1 m c1 (some ⟨hb, 0, none⟩) m m q3 n c3, .int .i64 0])) ((((W.setCell ⟨sk, 0, none⟩ a).setCell ⟨sk, 1, none⟩ b).setCell ⟨sk, 2, none⟩ c).setCell ⟨sk, 3, none⟩ d) := by
  refine ⟨fun _ => ⟨q1, c1, some ⟨hb, 0, none⟩, m, q3, c3, by rw [Int.toNat_natCast], hc1, ?_, ?_, ?_, f1, ?_, ?_⟩, fun h => absurd hE h, (((hB.setCell hsk _).setCell hsk _).setCell hsk _).setCell hsk _⟩
  · exact (((h1.other (p := ⟨sk, 0, none⟩) hq1 _).other (p := ⟨sk, 1, none⟩) hq1 _).other (p := ⟨sk, 2, none⟩) hq1 _).other (p := ⟨sk, 3, none⟩) hq1 _
  · rw [Int.toNat_natCast]
    exact ((((h2.far (p := ⟨sk, 0, none⟩) hne _).far (p := ⟨sk, 1, none⟩) hne _).far (p := ⟨sk, 2, none⟩) hne _).far (p := ⟨sk, 3, none⟩) hne _).breads
  · rw [Int.toNat_natCast]
    intro h0
    have hz := (((h3.far (p := ⟨sk, 0, none⟩) hv a).far (p := ⟨sk, 1, none⟩) hv b).far (p := ⟨sk, 2, none⟩) hv c).far (p := ⟨sk, 3, none⟩) hv d
    refine ⟨vb, 1, hq3 h0, fun k hk => ?_⟩
    rw [hz.cell (i := 1 + k) (by omega)]
    unfold shF
    rw [if_neg (by omega), show 1 + k - 1 = k by omega, lvF_of hl hk]
  · intro ad e; injection e with e; rw [← e]; exact f2
  · intro h0 ad e
    rw [Int.toNat_natCast] at h0
    rw [hq3 h0] at e; injection e with e; rw [← e]; exact f3
set_option maxHeartbeats 40000000 in
set_option maxRecDepth 100000 in
theorem gSoF : KSoF 10 := by
  intro vars p m c l w hp hmc hm
  have K1 : Hid (Blk (w.alloc (.cells #[.int .i64 0, .slice none 0 0, .slice none 0 0, .slice none 0 0] 26)) w.heap.size 26 [.int .i64 0, .slice none 0 0, .slice none 0 0, .slice none 0 0]) := Blk.new rfl
  have B1 : Hid (Below w.heap.size w (w.alloc (.cells #[.int .i64 0, .slice none 0 0, .slice none 0 0, .slice none 0 0] 26))) := (Below.refl _ _).alloc (Nat.le_refl _) _
  have RET : Hid (∀ (tm : Array Value) (W : World) (sk : Nat) (er : Int) (cs : List Value), tm.getD 4 undef = .pointer (some ⟨sk, 0, none⟩) → tm.getD 5 undef = .int .i64 er → Blk W sk 26 cs → cs.length = 4 → (results Try.f10 tm).run Try.prog W = .ok (.tuple #[.agg cs.toArray, .int .i64 er]) W) := fun tm W sk er cs h1 h2 h3 h4 => by
    have := results_row_tmp (P := Try.prog) (fn := Try.f10) (p := 4) (u := 5) (ty := 26) rfl tm W sk 26 cs.toArray (0, 0) _ h1 h3 Try.underlying26 rfl (by rw [List.size_toArray, h4]; kernel_rfl)
    rw [this, h2]
  have CK := hide (pcheck_any vars p m c l (w.alloc (.cells #[.int .i64 0, .slice none 0 0, .slice none 0 0, .slice none 0 0] 26)) (hp.below B1.out) hm)
  have HP := hide hp
  have ER : Hid (¬ ckF vars m l = 0 → erS vars m l = ckF vars m l) := fun h => ck_er h
  have EK : Hid (ckF vars m l = 0 → (0 ≤ vars ∧ vars ≤ 64) ∧ m ≤ 200 ∧ ∀ k, k < m → okC vars (l k)) := fun h => ck_ok h
  clear hp
  generalize ckF vars m l = er at *
  by_cases h0 : er = 0
  case neg =>
    have E := hide (ER.out h0)
    have d0 : (er == 0) = false := by simpa using h0
    have d1 : (er != 0) = true := by simpa using h0
    have H0 := hide h0
    clear h0 ER EK
    go_enter Try.func10, Try.ntmps10
    go_wp2_with fail
    refine CK.out.mono ?_
    rintro e w2 ⟨rfl, h⟩
    have B2 : Hid (Below w.heap.size w w2) := B1.out.trans (h.mono B1.out.size)
    have K2 : Hid (Blk w2 w.heap.size 26 [.int .i64 0, .slice none 0 0, .slice none 0 0, .slice none 0 0]) := (h.block _ K1.out.lt).trans K1.out
    clear h CK K1 B1
    have KZ := hide (setZ K2.out rfl (.int .i64 0) (.slice none 0 0) (.slice none 0 0) (.slice none 0 0))
    have BZ : Hid (∀ a b c d, Below w.heap.size w ((((w2.setCell ⟨w.heap.size, 0, none⟩ a).setCell ⟨w.heap.size, 1, none⟩ b).setCell ⟨w.heap.size, 2, none⟩ c).setCell ⟨w.heap.size, 3, none⟩ d)) := fun a b c d => (((B2.out.setCell (Nat.le_refl _) _).setCell (Nat.le_refl _) _).setCell (Nat.le_refl _) _).setCell (Nat.le_refl _) _
    have y0 := K2.out.cell 0 rfl
    have y1 := K2.out.cell 1 rfl
    have y2 := K2.out.cell 2 rfl
    have y3 := K2.out.cell 3 rfl
    have z0 := K2.out.free 0
    have z1 := K2.out.free 1
    have z2 := K2.out.free 2
    have z3 := K2.out.free 3
    go_wp2_with fail
    refine bodyPost_ret (RET.out _ _ _ _ _ rfl rfl KZ.out rfl) rfl ?_
    exact sof_err E.out H0.out (BZ.out _ _ _ _)
  subst h0
  obtain ⟨⟨hv1, hv2⟩, hl, hok⟩ := EK.out rfl
  obtain ⟨n, rfl⟩ : ∃ n : Nat, vars = (n : Int) := ⟨vars.toNat, by omega⟩
  have hn : n ≤ 64 := by omega
  have OK := hide hok
  have EC : Hid (¬ Feas n m l (ac0 l) → erS (n : Int) m l = 13) := fun h => erS_conf hn (by omega) hok h
  have EO : Hid (erS (n : Int) m l = 0 → True) := fun _ => trivial
  clear ER EK hv1 hv2 hok EO
  have hmk : ∀ W : World, (Instr.makeSlice 23 (.int .i64 (m : Int)) (.int .i64 (m : Int))).run Try.prog W = .ok (.slice (some ⟨W.heap.size, 0, none⟩) m m) (W.alloc (.cells (bools m (fun _ => false)) 4)) := make_bools m (by omega)
  have HSZ : w.heap.size < (w.alloc (.cells #[.int .i64 0, .slice none 0 0, .slice none 0 0, .slice none 0 0] 26)).heap.size := by simp
  go_enter Try.func10, Try.ntmps10
  go_wp2_with fail
  refine CK.out.mono ?_
  rintro e w2 ⟨rfl, h⟩
  have B2 : Hid (Below w.heap.size w w2) := B1.out.trans (h.mono B1.out.size)
  have K2 : Hid (Blk w2 w.heap.size 26 [.int .i64 0, .slice none 0 0, .slice none 0 0, .slice none 0 0]) := (h.block _ K1.out.lt).trans K1.out
  have hs2 := h.size
  clear h CK K1 B1
  have NW := hide (pnew_any n (fun _ => ⟨0, 0, 0, 0, 0⟩) w2 hn)
  go_wp2_with fail
  refine NW.out.mono ?_
  rintro e w3 ⟨ab, cv, vb, rfl, hA, hab, hvb, h⟩
  have hlt := hA.blk.lt
  have hlv := hA.val.lt
  have hs3 := h.size
  have S0 : Hid (SvX w (w3.alloc (.cells (bools m (fun _ => false)) 4)) w.heap.size w3.heap.size ab n m l 0 0) := by
    have B3 : Below w.heap.size w w3 := B2.out.trans (h.mono B2.out.size)
    refine ⟨0, 0, cv, vb, none, (fun _ => ⟨0, 0, 0, 0, 0⟩), (fun _ => 0), B3.alloc B3.size _, Blk.alloc (show Blk w3 w.heap.size 26 [.int .i64 0, .slice none 0 0, .slice none 0 0, .slice none 0 0] from (h.block _ K2.out.lt).trans K2.out) _, hA.below ((Below.refl _ _).alloc (Nat.le_refl _) _), (BRow.new w3 m (fun _ => false)).congr fun j _ => (acP_zero j).symm, Bds.zero.ext fun j _ => acP_zero j, lst_ext lst_zero fun j _ => acP_zero j, Nat.zero_le _, ⟨Nat.le_refl _, B3.size, by omega⟩, ⟨by omega, by omega, by omega⟩, ⟨by omega, by omega, fun q e => by cases e⟩, by omega⟩
  clear hA h hvb B2 K2 NW hlv
  go_wp2_with fail
  clear hmk
  generalize w3.alloc (.cells (bools m (fun _ => false)) 4) = w4 at *
  generalize w3.heap.size = hb at *
  obtain ⟨sk, hsk⟩ : ∃ sk, sk = w.heap.size := ⟨_, rfl⟩
  rw [← hsk] at S0 ⊢
  clear hsk HSZ hs2 hs3 hab hlt
  go_loopg [9] 6 (fun g1 vs wr => ∃ s : Nat, vs = .int .i64 (s : Int) ∧ s ≤ 4 ∧ 4 - s < g1 ∧ Hid (SvX w wr sk hb ab n m l s 0))
  case atStart => exact ⟨0, by go_num, by omega, by omega, S0⟩
  case round =>
    clear S0
    obtain ⟨wu, rfl⟩ : ∃ wu : World, wu = wr := ⟨_, rfl⟩
    obtain ⟨s, rfl, hs, hg1, S⟩ := hrel
    by_cases hs3 : s ≤ 3
    case neg =>
      obtain rfl : s = 4 := by omega
      have hs3z : ¬ ((4 : Nat) : Int) ≤ 3 := by omega
      obtain ⟨nb, cb, cv, vb, pb, bl, y, SI⟩ := S.out
      have LS : Hid (Lst n m l (acB n m l 3) y) := SI.lst
      have E0 : Hid (erS (n : Int) m l = 0) := erS_ok hn (by omega) OK.out ⟨y, sol_acc LS.out.1 fun k hk h => acB_to (s := 0) h (by omega)⟩
      have KC := hide (pclone_any p m c l wu (HP.out.below SI.below) hmc (by omega))
      have SI := hide SI
      clear S EC OK
      go_wp2_with fail
      refine KC.out.mono ?_
      rintro e w5 ⟨v, rfl, hO, hB⟩
      obtain ⟨q1, c1, rfl, hc1, hS1⟩ := own_srow hO
      have hq1 := own_lt hO
      have SL := hide (psolution_any ab n nb cb cv vb pb bl y w5 (SI.out.av.below hB) hn)
      have B5 : Hid (Below w.heap.size w w5) := SI.out.below.trans (hB.mono SI.out.below.size)
      have K5 : Hid (Blk w5 sk 26 [.int .i64 0, .slice none 0 0, .slice none 0 0, .slice none 0 0]) := (hB.block _ SI.out.kz.lt).trans SI.out.kz
      have S1 := hide hS1
      have Q1 : Hid (∀ ad, q1 = some ad → ad.block ≠ sk) := fun ad e => by
        have := hq1 _ (show (Value.slice q1 m c1).ownBlock = some ad.block by subst e; rfl)
        have := SI.out.kz.lt
        omega
      have R5 : Hid (BRow w5 hb m (acB n m l 3)) := (show BRow wu hb m (acB n m l 3) from SI.out.row).below hB SI.out.row.lt
      have V5 : Hid (CRw w5 vb (n + 1) (shF y)) := SI.out.av.val.below hB
      have NE := hide SI.out.ne
      have OLD := hide SI.out.old
      have VE := hide SI.out.ve
      have VO := hide SI.out.vo
      have F1 : Hid (∀ ad, q1 = some ad → w.heap.size ≤ ad.block) := fun ad e => by
        have := hq1 _ (show (Value.slice q1 m c1).ownBlock = some ad.block by subst e; rfl)
        have := SI.out.below.size
        omega
      clear hO hB hS1 hq1 KC SI
      go_wp2_with fail
      refine SL.out.mono ?_
      rintro e w6 ⟨⟨q3, c3, rfl, hq3⟩, rfl⟩
      have Q3 := hide hq3
      clear SL hq3
      have FN := hide (fun a b c d => so_ok (c3 := c3) E0.out B5.out OLD.out.1 hc1 S1.out Q1.out R5.out (fun e => NE.out.1 e.symm) V5.out VE.out.2.1 Q3.out LS.out F1.out OLD.out.2.1 VO.out a b c d)
      have KZ := hide (setZ K5.out rfl (.int .i64 (n : Int)) (.slice q1 m c1) (.slice (some ⟨hb, 0, none⟩) m m) (.slice q3 n c3))
      have y0 := K5.out.cell 0 rfl
      have y1 := K5.out.cell 1 rfl
      have y2 := K5.out.cell 2 rfl
      have y3 := K5.out.cell 3 rfl
      have z0 := K5.out.free 0
      have z1 := K5.out.free 1
      have z2 := K5.out.free 2
      have z3 := K5.out.free 3
      clear R5 V5 LS S1 Q1 Q3 B5 K5
      go_wp2_with fail
      refine bodyPost_ret (RET.out _ _ _ _ _ rfl rfl KZ.out rfl) rfl ?_
      exact FN.out _ _ _ _
    have hs3z : (s : Int) ≤ 3 := by omega
    have ws : IntKind.i64.wrap ((s : Int) + 1) = (s : Int) + 1 := wr (by omega) (by omega)
    go_wp2_with fail
    go_loopg [30] (m + 1) (fun g2 vk wi => ∃ k : Nat, vk = .int .i64 (k : Int) ∧ k ≤ m ∧ m - k < g2 ∧ Hid (SvX w wi sk hb ab n m l s k))
    case atStart => exact ⟨0, by go_num, by omega, by omega, S⟩
    case round =>
      clear S
      obtain ⟨wo, rfl⟩ : ∃ wo : World, wo = wr := ⟨_, rfl⟩
      obtain ⟨k, rfl, hk, hg2, S⟩ := hrel
      by_cases hlk : k < m
      case neg =>
        have hlkz : ¬ (k : Int) < (m : Int) := by omega
        obtain rfl : k = m := by omega
        have S1 : Hid (SvX w wo sk hb ab n k l (s + 1) 0) := by
          obtain ⟨nb, cb, cv, vb, pb, bl, y, S⟩ := S.out
          exact ⟨nb, cb, cv, vb, pb, bl, y, S.pass hl⟩
        clear S EC OK
        go_wp2_with fail
        go_roundg (4 - s)
        case measure => exact hg1
        case rel => exact ⟨s + 1, by go_num, by omega, by omega, S1⟩
      have hlkz : (k : Int) < (m : Int) := by omega
      have hk0 : (0 : Int) ≤ (k : Int) := by omega
      obtain ⟨nb, cb, cv, vb, pb, bl, y, SI⟩ := S.out
      obtain ⟨lb, loff, rfl, hlb, hpc⟩ := (HP.out.below SI.below) (by omega)
      have c0 : wo.cell? ⟨lb, loff + k * 5, none⟩ = some (.int .i64 (l k).a) := hpc k hlk 0 (by decide)
      have c1 : wo.cell? ⟨lb, loff + k * 5 + 1, none⟩ = some (.int .i64 (l k).b) := hpc k hlk 1 (by decide)
      have c2 : wo.cell? ⟨lb, loff + k * 5 + 2, none⟩ = some (.int .i64 (l k).rel) := hpc k hlk 2 (by decide)
      have c3 : wo.cell? ⟨lb, loff + k * 5 + 3, none⟩ = some (.int .i64 (l k).cc) := hpc k hlk 3 (by decide)
      have c4 : wo.cell? ⟨lb, loff + k * 5 + 4, none⟩ = some (.int .i64 (l k).st) := hpc k hlk 4 (by decide)
      have SA := hide (SI.alloc (.cells #[.int .i64 (l k).a, .int .i64 (l k).b, .int .i64 (l k).rel, .int .i64 (l k).cc, .int .i64 (l k).st] 40))
      clear hpc hlb S SI
      by_cases hst : (l k).st = (s : Int)
      case neg =>
        have d0 : ((l k).st == (s : Int)) = false := by simpa using hst
        have d1 : ((l k).st != (s : Int)) = true := by simpa using hst
        have S1 : Hid (SvX w (wo.alloc (.cells #[.int .i64 (l k).a, .int .i64 (l k).b, .int .i64 (l k).rel, .int .i64 (l k).cc, .int .i64 (l k).st] 40)) sk hb ab n m l s (k + 1)) := ⟨nb, cb, cv, vb, pb, bl, y, SA.out.off hst⟩
        clear SA EC OK hst
        go_wp2_with fail
        go_roundg (m - k)
        case measure => exact hg2
        case rel => exact ⟨k + 1, by go_num, by omega, by omega, S1⟩
      have d0 : ((l k).st == (s : Int)) = true := by simpa using hst
      have d1 : ((l k).st != (s : Int)) = false := by simpa using hst
      have HST := hide hst
      have KA := hide (paccept_any ab n m nb cb cv vb k pb l bl (acP n m l s k) y _ SA.out.av SA.out.bds SA.out.lst hlk (OK.out k hlk) hn (by have := SA.out.nbs; omega))
      have NE := hide SA.out.ne
      have OLD := hide SA.out.old
      have NX := hide (fun e w' P => SvI.acc (e := e) (w' := w') SA.out hlk (OK.out k hlk) hst P)
      clear SA hst OK
      go_wp2_with fail
      refine KA.out.mono ?_
      rintro e w5 P
      obtain ⟨⟨hB5, hK5, hR5⟩, hor⟩ := NX.out _ _ P
      have B5 := hide hB5
      have K5 := hide hK5
      have cz := hR5.cell hlk
      have fz := hR5.frozen k
      have R5 := hide hR5
      clear P KA NX hB5 hK5 hR5 c0 c1 c2 c3 c4
      rcases hor with ⟨rfl, S1⟩ | ⟨rfl, hs0, S1⟩ | ⟨rfl, hs0, hF⟩
      · have S1 := hide S1
        have cn : (w5.setCell ⟨hb, k, none⟩ (.bool true)).cell? ⟨hb, k, none⟩ = some (.bool true) := (R5.out.set_ k true).cell hlk |>.trans (by rw [if_pos rfl])
        clear R5 B5 K5 EC HST
        go_wp2_with fail
        go_roundg (m - k)
        case measure => exact hg2
        case rel => exact ⟨k + 1, by go_num, by omega, by omega, S1⟩
      · have S1 := hide S1
        have ds : ((s : Int) == 0) = false := by simpa using hs0
        have cn : (w5.setCell ⟨hb, k, none⟩ (.bool false)).cell? ⟨hb, k, none⟩ = some (.bool false) := (R5.out.set_ k false).cell hlk |>.trans (by rw [if_pos rfl])
        clear R5 B5 K5 EC HST
        go_wp2_with fail
        go_roundg (m - k)
        case measure => exact hg2
        case rel => exact ⟨k + 1, by go_num, by omega, by omega, S1⟩
      · subst hs0
        have E1 := hide (EC.out hF)
        have cn : (w5.setCell ⟨hb, k, none⟩ (.bool false)).cell? ⟨hb, k, none⟩ = some (.bool false) := (R5.out.set_ k false).cell hlk |>.trans (by rw [if_pos rfl])
        have ds : (((0 : Nat) : Int) == 0) = true := rfl
        have K6 : Hid (Blk (w5.setCell ⟨hb, k, none⟩ (.bool false)) sk 26 [.int .i64 0, .slice none 0 0, .slice none 0 0, .slice none 0 0]) := K5.out.other NE.out.1 _
        have B6 : Hid (Below w.heap.size w (w5.setCell ⟨hb, k, none⟩ (.bool false))) := B5.out.setCell OLD.out.2.1 _
        have KZ := hide (setZ K6.out rfl (.int .i64 0) (.slice none 0 0) (.slice none 0 0) (.slice none 0 0))
        have BZ : Hid (∀ a b c d, Below w.heap.size w (((((w5.setCell ⟨hb, k, none⟩ (.bool false)).setCell ⟨sk, 0, none⟩ a).setCell ⟨sk, 1, none⟩ b).setCell ⟨sk, 2, none⟩ c).setCell ⟨sk, 3, none⟩ d)) := fun a b c d => (((B6.out.setCell OLD.out.1 _).setCell OLD.out.1 _).setCell OLD.out.1 _).setCell OLD.out.1 _
        have y0 := K6.out.cell 0 rfl
        have y1 := K6.out.cell 1 rfl
        have y2 := K6.out.cell 2 rfl
        have y3 := K6.out.cell 3 rfl
        have z0 := K6.out.free 0
        have z1 := K6.out.free 1
        have z2 := K6.out.free 2
        have z3 := K6.out.free 3
        clear R5 B5 K5 EC HST
        go_wp2_with fail
        refine bodyPost_ret (RET.out _ _ _ _ _ rfl rfl KZ.out rfl) rfl ?_
        exact sof_err E1.out (by decide) (BZ.out _ _ _ _)
theorem gSo : KSo 10 := fun vars p m c l w h1 h2 h3 => (gSoF vars p m c l w h1 h2 h3).mono fun _ _ h => h.post
end Go.Proofs.Ytdoncogkepopiaa
