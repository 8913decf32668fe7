/- What the library's in-place merge makes of two sorted parts; the row is memory of the call's own, the comparison is a function that only reads. -/
import Derived.Test.YtdoenkngmgclmaaFxSymR
namespace Go.Proofs.Ytdoenkngmgclmaa
open Go.Shelf Go.RowKit Go.Lib Go.Sort Go.Proofs
variable {α : Type} [Inhabited α]

/-- What one call of the merge makes of the row. -/
def Merges (enc : α → Value) (ls : α → α → Bool) (w0 : World) (blk off a b : Nat) (d : Array α) (w' : World) : Prop := ∃ e : Array α, PermI a b d e ∧ SortedIn ls a b e ∧ SW enc w0 blk off e w'

set_option maxHeartbeats 16000000 in
set_option maxRecDepth 1000000 in
theorem symA (enc : α → Value) (cf : α → α → Int) (ls : α → α → Bool) (FN : Finer (ltOf cf) ls) (g : Nat) (cb : Array Value) (blk off cap a m b : Nat) (d0 d : Array α) (w0 w : World) (T : Sorts enc cf g cb blk off d0 w0)
    (hs : d.size = d0.size) (S : SW enc w0 blk off d w) (h1 : a + 1 < m) (h2 : m + 1 < b) (hb : b ≤ d.size) (s1 : SortedIn ls a m d) (s2 : SortedIn ls m b d) (hC : Cross (ltOf cf) ls a m b d) (hmid : (a + b) / 2 < m)
    (ih : ∀ (a' m' b' : Nat) (d' : Array α) (w' : World), b' - a' < b - a → a' < m' → m' < b' → b' ≤ d'.size → d'.size = d.size → SW enc w0 blk off d' w' → SortedIn ls a' m' d' → SortedIn ls m' b' d' → Cross (ltOf cf) ls a' m' b' d' →
      Calls Try.prog 79 #[.slice (some ⟨blk, off, none⟩) d.size cap, .int .i64 a', .int .i64 m', .int .i64 b', .func (.func g) #[] cb] w' fun e w'' => e = .returned (.tuple #[]) ∧ Merges enc ls w0 blk off a' b' d' w'') :
    Calls Try.prog 79 #[.slice (some ⟨blk, off, none⟩) d.size cap, .int .i64 a, .int .i64 m, .int .i64 b, .func (.func g) #[] cb] w fun e w' => e = .returned (.tuple #[]) ∧ Merges enc ls w0 blk off a b d w' := by
  have eg := T.eg
  have HC : Aside _ := T.hcmp
  have R := T.R
  have hsz : d.size < 1152921504606846976 := by rw [hs]; exact T.hsz
  have RT : Aside (∀ (x y z : Nat) (dk : Array α) (wk : World), dk.size = d.size → SW enc w0 blk off dk wk → x < y → y < z → z ≤ d.size →
      Calls Try.prog 80 #[.slice (some ⟨blk, off, none⟩) d.size cap, .int .i64 x, .int .i64 y, .int .i64 z, .func (.func g) #[] cb] wk fun e w' => e = .returned (.tuple #[]) ∧ SW enc w0 blk off (rot dk x y z) w') := fun x y z dk wk hk Sk g1 g2 g3 => by
    have := rotate_any enc cap blk off x y z (.func (.func g) #[] cb) d0 dk w0 wk R (by omega) Sk g1 g2 (by omega) (by omega)
    rwa [hk] at this
  have mixed := insLaid.mixed
  have S0 : Aside (SW enc w0 blk off d w) := S
  have HS := hide' hs
  have Q1 := hide' s1
  have Q2 := hide' s2
  have QC := hide' hC
  have IH : Aside _ := ih
  clear S T hs s1 s2 hC ih
  have tst : ((m : Int) - (a : Int) == 1) = false := by simp; omega
  have tst2 : ((b : Int) - (m : Int) == 1) = false := by simp; omega
  obtain ⟨mid, hmm⟩ : ∃ q : Nat, q = (a + b) / 2 := ⟨_, rfl⟩
  have em : ((a : Int) + (b : Int)) / 2 = (mid : Int) := by omega
  have EM := hide' em
  have n1 : mid + mid ≤ a + b := by omega
  have n2 : a + b ≤ mid + mid + 1 := by omega
  clear em
  go_enter Try.func79, Try.ntmps79
  go_wp2
  rw [EM.out]
  clear tst tst2 EM hmm hmid
  have hmid : mid < m := by omega
  rw [show decide ((mid : Int) < (m : Int)) = true from decide_eq_true (by omega)]
  go_loopg [20, 21] (b + 1) (fun g1 vs vr wr => ∃ (s r : Nat), vs = .int .i64 s ∧ vr = .int .i64 r ∧ (mid + m - b) ≤ s ∧ s ≤ r ∧ r ≤ mid ∧ r - s < g1 ∧ Hid (s = (mid + m - b) ∨ ltOf cf d[mid + m - 1 - (s - 1)]! d[s - 1]! = false) ∧ Hid (r = mid ∨ ltOf cf d[mid + m - 1 - r]! d[r]! = true) ∧ Aside (SW enc w0 blk off d wr))
  case atStart => exact ⟨(mid + m - b), mid, by first | rfl | (congr 1; omega), rfl, by omega, by omega, by omega, by omega, Or.inl rfl, Or.inl rfl, S0⟩
  case round =>
    clear S0
    obtain ⟨s, r, rfl, rfl, hi, hij, hj, hg, KI, KJ, S1⟩ := hrel
    by_cases hlt : s < r
    · have hltz : (s : Int) < (r : Int) := by omega
      have hcl0 := R.hO.cells
      simp only [Value.cells] at hcl0
      have hst := R.hO.store Try.prog
      go_wp2_with fail
      obtain ⟨h, hh⟩ : ∃ h : Nat, h = (s + r) / 2 := ⟨_, rfl⟩
      rw [show ((s : Int) + (r : Int)) / 2 = (h : Int) by omega]
      have hh1 : s ≤ h := by omega
      have hh2 : h < r := by omega
      clear hh
      cases hlv : ltOf cf d[mid + m - 1 - h]! d[h]! with
      | true =>
        obtain ⟨pN, hpN⟩ : ∃ q : Nat, q = mid + m - 1 - h := ⟨_, rfl⟩
        have rd : IntKind.i64.wrap ((mid : Int) + (m : Int) - 1 - (h : Int)) = (pN : Int) := by rw [IntKind.wrap_i64]; omega
        have re : (mid : Int) + (m : Int) - 1 - (h : Int) = (pN : Int) := by omega
        obtain ⟨iN, hiN⟩ : ∃ q, q = pN := ⟨_, rfl⟩
        obtain ⟨jN, hjN⟩ : ∃ q, q = h := ⟨_, rfl⟩
        have ea : ((pN : Int)).toNat = iN := by omega
        have pa : (0 : Int) ≤ (pN : Int) := by omega
        have ba : (pN : Int) < (d.size : Int) := by omega
        have ra : IntKind.i64.wrap ((pN : Int)) = (pN : Int) := by rw [IntKind.wrap_i64]; omega
        have ec : (((h : Nat) : Int)).toNat = jN := by omega
        have pc : (0 : Int) ≤ ((h : Nat) : Int) := by omega
        have bc : ((h : Nat) : Int) < (d.size : Int) := by omega
        have rc : IntKind.i64.wrap (((h : Nat) : Int)) = ((h : Nat) : Int) := by rw [IntKind.wrap_i64]; omega
        obtain ⟨x, hx⟩ : ∃ x, x = d[mid + m - 1 - h]! := ⟨_, rfl⟩
        obtain ⟨y, hy⟩ : ∃ x, x = d[h]! := ⟨_, rfl⟩
        have l1a := S1.out.cl R HS.out (mid + m - 1 - h) (by omega)
        have l1b := S1.out.cl R HS.out (h) (by omega)
        rw [← hx, ← hpN, ← hiN] at l1a
        rw [← hy, ← hjN] at l1b
        have hc1 := S1.out.cmp HC.out HS.out x y
        have hv1 : cf x y < 0 := by rw [hx, hy]; exact of_decide_eq_true hlv
        have hd1 : decide (cf x y < 0) = true := decide_eq_true hv1
        have HLV := hide' hlv
        clear hx hy hiN hjN hpN hlv
        go_wp2_with fail
        go_quiet_grown (first | (go_at_fn g; refine Calls.grown_of (hc1 _ _)))
        have S2 : Aside (SW enc w0 blk off d (grow (wr.drewN nq) osq)) := S1.out.grown nq osq
        clear l1a l1b hc1 S1
        generalize grow (wr.drewN nq) osq = w2 at S2 ⊢
        clear nq osq
        clear ea ec ra rc rd re pa pc ba bc
        have hlv := HLV.out
        clear HLV hd1 hv1
        have K' : Hid (h = mid ∨ ltOf cf d[mid + m - 1 - h]! d[h]! = true) := Or.inr hlv
        clear hlv
        go_wp2
        go_roundg (h - s + 1)
        case measure => omega
        case rel => exact ⟨s, h, rfl, rfl, hi, by omega, by omega, by omega, KI, K', S2⟩
      | false =>
        obtain ⟨pN, hpN⟩ : ∃ q : Nat, q = mid + m - 1 - h := ⟨_, rfl⟩
        have rd : IntKind.i64.wrap ((mid : Int) + (m : Int) - 1 - (h : Int)) = (pN : Int) := by rw [IntKind.wrap_i64]; omega
        have re : (mid : Int) + (m : Int) - 1 - (h : Int) = (pN : Int) := by omega
        obtain ⟨iN, hiN⟩ : ∃ q, q = pN := ⟨_, rfl⟩
        obtain ⟨jN, hjN⟩ : ∃ q, q = h := ⟨_, rfl⟩
        have ea : ((pN : Int)).toNat = iN := by omega
        have pa : (0 : Int) ≤ (pN : Int) := by omega
        have ba : (pN : Int) < (d.size : Int) := by omega
        have ra : IntKind.i64.wrap ((pN : Int)) = (pN : Int) := by rw [IntKind.wrap_i64]; omega
        have ec : (((h : Nat) : Int)).toNat = jN := by omega
        have pc : (0 : Int) ≤ ((h : Nat) : Int) := by omega
        have bc : ((h : Nat) : Int) < (d.size : Int) := by omega
        have rc : IntKind.i64.wrap (((h : Nat) : Int)) = ((h : Nat) : Int) := by rw [IntKind.wrap_i64]; omega
        obtain ⟨x, hx⟩ : ∃ x, x = d[mid + m - 1 - h]! := ⟨_, rfl⟩
        obtain ⟨y, hy⟩ : ∃ x, x = d[h]! := ⟨_, rfl⟩
        have l1a := S1.out.cl R HS.out (mid + m - 1 - h) (by omega)
        have l1b := S1.out.cl R HS.out (h) (by omega)
        rw [← hx, ← hpN, ← hiN] at l1a
        rw [← hy, ← hjN] at l1b
        have hc1 := S1.out.cmp HC.out HS.out x y
        have hv1 : ¬ cf x y < 0 := by rw [hx, hy]; exact of_decide_eq_false hlv
        have hd1 : decide (cf x y < 0) = false := decide_eq_false hv1
        have HLV := hide' hlv
        clear hx hy hiN hjN hpN hlv
        go_wp2_with fail
        go_quiet_grown (first | (go_at_fn g; refine Calls.grown_of (hc1 _ _)))
        have S2 : Aside (SW enc w0 blk off d (grow (wr.drewN nq) osq)) := S1.out.grown nq osq
        clear l1a l1b hc1 S1
        generalize grow (wr.drewN nq) osq = w2 at S2 ⊢
        clear nq osq
        clear ea ec ra rc rd re pa pc ba bc
        have hlv := HLV.out
        clear HLV hd1 hv1
        have K' : Hid (h + 1 = (mid + m - b) ∨ ltOf cf d[mid + m - 1 - (h + 1 - 1)]! d[h + 1 - 1]! = false) := Or.inr hlv
        clear hlv
        go_wp2
        go_roundg (r - (h + 1) + 1)
        case measure => omega
        case rel => exact ⟨h + 1, r, by go_num, rfl, by omega, by omega, hj, by omega, K', KJ, S2⟩
    · have hltz : ¬ (s : Int) < (r : Int) := by omega
      obtain rfl : s = r := by omega
      obtain ⟨en, hen⟩ : ∃ q, q = mid + m - s := ⟨_, rfl⟩
      have HV : Hid (Halves (ltOf cf) ls a s mid en b (rot d s m en)) := by
        refine halves FN hb (by omega) (by omega) (by omega) (by omega) (by omega) (by omega) Q1.out Q2.out QC.out ?_ ?_
        · rcases KI.out with k | k
          · left; right; omega
          · by_cases hs0 : s = 0
            · left; omega
            · right; rw [show en = mid + m - 1 - (s - 1) by omega]; exact k
        · rcases KJ.out with k | k
          · left; right; omega
          · right; rw [show en - 1 = mid + m - 1 - s by omega]; exact k
      have HEN : Hid ((mid : Int) + (m : Int) - (s : Int) = (en : Int)) := by show _ = _; omega
      have e1 : (en : Int) ≤ (mid : Int) + (m : Int) - (s : Int) := by omega
      have e2 : (mid : Int) + (m : Int) - (s : Int) ≤ (en : Int) := by omega
      have Z1 : Hid ((rot d s m en).size = d.size) := size_rot _ _ _ _
      clear KI KJ Q1 Q2 QC hen
      by_cases hrt : s < m ∧ m < en
      · obtain ⟨hr1, hr2⟩ := hrt
        have C := RT.out s m en d wr rfl S1.out hr1 hr2 (by omega)
        rw [← HEN.out] at C
        go_wp2_with fail
        refine C.mono ?_
        rintro e w1 ⟨rfl, SE⟩
        have S2 : Aside (SW enc w0 blk off (rot d s m en) w1) := SE
        clear C S1 SE
        by_cases hl : a < s ∧ s < mid
        · obtain ⟨hl1, hl2⟩ := hl
          first
            | (exfalso; omega)
            | (have C := IH.out a s mid (rot d s m en) _ (by omega) hl1 hl2 (by rw [Z1.out]; omega) Z1.out S2.out HV.out.s1 HV.out.s2 HV.out.c1
               go_wp2_with fail
               refine C.mono ?_
               rintro e w2 ⟨rfl, e2', p1, q1, SE⟩
               have P1 := hide' p1
               have Q1 := hide' q1
               have S3 : Aside (SW enc w0 blk off e2' w2) := SE
               clear C S2 p1 q1 SE
               have Z2 : Hid (e2'.size = d.size) := P1.out.size.trans Z1.out
               have R3 : Hid (SortedIn ls mid en e2') := sorted_out P1.out HV.out.s3 (Or.inr (Nat.le_refl _))
               have R4 : Hid (SortedIn ls en b e2') := sorted_out P1.out HV.out.s4 (Or.inr (by omega))
               have RC : Hid (Cross (ltOf cf) ls mid en b e2') := fun p q u1 u2 u3 u4 => by
                 rw [P1.out.out (k := p) (by omega), P1.out.out (k := q) (by omega)]
                 exact HV.out.c2 p q u1 u2 u3 u4
               have FIN : Aside (∀ e3 : Array α, PermI mid b e2' e3 → SortedIn ls mid b e3 → PermI a b d e3 ∧ SortedIn ls a b e3) := fun e3 p2 q2 => by
                 have := combine (by rw [Z1.out]; exact hb) (by omega) (by omega) HV.out.sep P1.out Q1.out p2 q2
                 exact ⟨((PermI.rot (by omega) (by omega)).mono (by omega) (by omega)).trans hb this.1, this.2⟩
               clear HV P1 Q1
               by_cases hr : mid < en ∧ en < b
               · obtain ⟨hr1, hr2⟩ := hr
                 have C := IH.out mid en b e2' _ (by omega) hr1 hr2 (by rw [Z2.out]; exact hb) Z2.out S3.out R3.out R4.out RC.out
                 first
                   | (exfalso; omega)
                   | (rw [← HEN.out] at C
                      go_wp2_with fail
                      refine C.mono ?_
                      rintro e w3 ⟨rfl, e3, p2, q2, SE⟩
                      have P2 := hide' (FIN.out e3 p2 q2)
                      have S4 : Aside (SW enc w0 blk off e3 w3) := SE
                      clear C S3 p2 q2 SE FIN R3 R4 RC
                      go_wp2
                      go_end0
                      exact ⟨rfl, e3, P2.out.1, P2.out.2, S4.out⟩)
               · have P2 := hide' (FIN.out e2' (PermI.refl _ _ _) (whole_left (by omega) R3.out R4.out))
                 have hr' : en ≤ mid ∨ b ≤ en := by omega
                 clear hr FIN R3 R4 RC
                 rcases hr' with hr' | hr'
                 all_goals first
                   | (exfalso; omega)
                   | (go_wp2
                      go_end0
                      exact ⟨rfl, e2', P2.out.1, P2.out.2, S3.out⟩))
        · have P1 : Hid (PermI a mid (rot d s m en) (rot d s m en)) := PermI.refl _ _ _
          have Q1 : Hid (SortedIn ls a mid (rot d s m en)) := whole_left (by omega) HV.out.s1 HV.out.s2
          have S3 := S2
          have hl' : s ≤ a ∨ mid ≤ s := by omega
          obtain ⟨e2', he2⟩ : ∃ q, q = rot d s m en := ⟨_, rfl⟩
          rw [← he2] at S3
          have P1 : Hid (PermI a mid (rot d s m en) e2') := by rw [he2]; exact P1
          have Q1 : Hid (SortedIn ls a mid e2') := by rw [he2]; exact Q1
          clear S2 hl he2
          rcases hl' with hl' | hl'
          all_goals first
            | (exfalso; omega)
            | (have tok : True := trivial
               have Z2 : Hid (e2'.size = d.size) := P1.out.size.trans Z1.out
               have R3 : Hid (SortedIn ls mid en e2') := sorted_out P1.out HV.out.s3 (Or.inr (Nat.le_refl _))
               have R4 : Hid (SortedIn ls en b e2') := sorted_out P1.out HV.out.s4 (Or.inr (by omega))
               have RC : Hid (Cross (ltOf cf) ls mid en b e2') := fun p q u1 u2 u3 u4 => by
                 rw [P1.out.out (k := p) (by omega), P1.out.out (k := q) (by omega)]
                 exact HV.out.c2 p q u1 u2 u3 u4
               have FIN : Aside (∀ e3 : Array α, PermI mid b e2' e3 → SortedIn ls mid b e3 → PermI a b d e3 ∧ SortedIn ls a b e3) := fun e3 p2 q2 => by
                 have := combine (by rw [Z1.out]; exact hb) (by omega) (by omega) HV.out.sep P1.out Q1.out p2 q2
                 exact ⟨((PermI.rot (by omega) (by omega)).mono (by omega) (by omega)).trans hb this.1, this.2⟩
               clear HV P1 Q1
               by_cases hr : mid < en ∧ en < b
               · obtain ⟨hr1, hr2⟩ := hr
                 have C := IH.out mid en b e2' _ (by omega) hr1 hr2 (by rw [Z2.out]; exact hb) Z2.out S3.out R3.out R4.out RC.out
                 first
                   | (exfalso; omega)
                   | (rw [← HEN.out] at C
                      go_wp2_with fail
                      refine C.mono ?_
                      rintro e w3 ⟨rfl, e3, p2, q2, SE⟩
                      have P2 := hide' (FIN.out e3 p2 q2)
                      have S4 : Aside (SW enc w0 blk off e3 w3) := SE
                      clear C S3 p2 q2 SE FIN R3 R4 RC
                      go_wp2
                      go_end0
                      exact ⟨rfl, e3, P2.out.1, P2.out.2, S4.out⟩)
               · have P2 := hide' (FIN.out e2' (PermI.refl _ _ _) (whole_left (by omega) R3.out R4.out))
                 have hr' : en ≤ mid ∨ b ≤ en := by omega
                 clear hr FIN R3 R4 RC
                 rcases hr' with hr' | hr'
                 all_goals first
                   | (exfalso; omega)
                   | (go_wp2
                      go_end0
                      exact ⟨rfl, e2', P2.out.1, P2.out.2, S3.out⟩))
      · have S2 : Aside (SW enc w0 blk off (rot d s m en) wr) := by
          rcases Nat.lt_or_ge s m with h | h
          · rw [show en = m by omega, rot_right]; exact S1
          · rw [show s = m by omega, rot_left]; exact S1
        have hr' : m ≤ s ∨ en ≤ m := by omega
        clear S1 hrt
        rcases hr' with hr' | hr'
        all_goals first
          | (exfalso; omega)
          | (have tok : True := trivial
             by_cases hl : a < s ∧ s < mid
             · obtain ⟨hl1, hl2⟩ := hl
               first
                 | (exfalso; omega)
                 | (have C := IH.out a s mid (rot d s m en) _ (by omega) hl1 hl2 (by rw [Z1.out]; omega) Z1.out S2.out HV.out.s1 HV.out.s2 HV.out.c1
                    go_wp2_with fail
                    refine C.mono ?_
                    rintro e w2 ⟨rfl, e2', p1, q1, SE⟩
                    have P1 := hide' p1
                    have Q1 := hide' q1
                    have S3 : Aside (SW enc w0 blk off e2' w2) := SE
                    clear C S2 p1 q1 SE
                    have Z2 : Hid (e2'.size = d.size) := P1.out.size.trans Z1.out
                    have R3 : Hid (SortedIn ls mid en e2') := sorted_out P1.out HV.out.s3 (Or.inr (Nat.le_refl _))
                    have R4 : Hid (SortedIn ls en b e2') := sorted_out P1.out HV.out.s4 (Or.inr (by omega))
                    have RC : Hid (Cross (ltOf cf) ls mid en b e2') := fun p q u1 u2 u3 u4 => by
                      rw [P1.out.out (k := p) (by omega), P1.out.out (k := q) (by omega)]
                      exact HV.out.c2 p q u1 u2 u3 u4
                    have FIN : Aside (∀ e3 : Array α, PermI mid b e2' e3 → SortedIn ls mid b e3 → PermI a b d e3 ∧ SortedIn ls a b e3) := fun e3 p2 q2 => by
                      have := combine (by rw [Z1.out]; exact hb) (by omega) (by omega) HV.out.sep P1.out Q1.out p2 q2
                      exact ⟨((PermI.rot (by omega) (by omega)).mono (by omega) (by omega)).trans hb this.1, this.2⟩
                    clear HV P1 Q1
                    by_cases hr : mid < en ∧ en < b
                    · obtain ⟨hr1, hr2⟩ := hr
                      have C := IH.out mid en b e2' _ (by omega) hr1 hr2 (by rw [Z2.out]; exact hb) Z2.out S3.out R3.out R4.out RC.out
                      first
                        | (exfalso; omega)
                        | (rw [← HEN.out] at C
                           go_wp2_with fail
                           refine C.mono ?_
                           rintro e w3 ⟨rfl, e3, p2, q2, SE⟩
                           have P2 := hide' (FIN.out e3 p2 q2)
                           have S4 : Aside (SW enc w0 blk off e3 w3) := SE
                           clear C S3 p2 q2 SE FIN R3 R4 RC
                           go_wp2
                           go_end0
                           exact ⟨rfl, e3, P2.out.1, P2.out.2, S4.out⟩)
                    · have P2 := hide' (FIN.out e2' (PermI.refl _ _ _) (whole_left (by omega) R3.out R4.out))
                      have hr' : en ≤ mid ∨ b ≤ en := by omega
                      clear hr FIN R3 R4 RC
                      rcases hr' with hr' | hr'
                      all_goals first
                        | (exfalso; omega)
                        | (go_wp2
                           go_end0
                           exact ⟨rfl, e2', P2.out.1, P2.out.2, S3.out⟩))
             · have P1 : Hid (PermI a mid (rot d s m en) (rot d s m en)) := PermI.refl _ _ _
               have Q1 : Hid (SortedIn ls a mid (rot d s m en)) := whole_left (by omega) HV.out.s1 HV.out.s2
               have S3 := S2
               have hl' : s ≤ a ∨ mid ≤ s := by omega
               obtain ⟨e2', he2⟩ : ∃ q, q = rot d s m en := ⟨_, rfl⟩
               rw [← he2] at S3
               have P1 : Hid (PermI a mid (rot d s m en) e2') := by rw [he2]; exact P1
               have Q1 : Hid (SortedIn ls a mid e2') := by rw [he2]; exact Q1
               clear S2 hl he2
               rcases hl' with hl' | hl'
               all_goals first
                 | (exfalso; omega)
                 | (have tok : True := trivial
                    have Z2 : Hid (e2'.size = d.size) := P1.out.size.trans Z1.out
                    have R3 : Hid (SortedIn ls mid en e2') := sorted_out P1.out HV.out.s3 (Or.inr (Nat.le_refl _))
                    have R4 : Hid (SortedIn ls en b e2') := sorted_out P1.out HV.out.s4 (Or.inr (by omega))
                    have RC : Hid (Cross (ltOf cf) ls mid en b e2') := fun p q u1 u2 u3 u4 => by
                      rw [P1.out.out (k := p) (by omega), P1.out.out (k := q) (by omega)]
                      exact HV.out.c2 p q u1 u2 u3 u4
                    have FIN : Aside (∀ e3 : Array α, PermI mid b e2' e3 → SortedIn ls mid b e3 → PermI a b d e3 ∧ SortedIn ls a b e3) := fun e3 p2 q2 => by
                      have := combine (by rw [Z1.out]; exact hb) (by omega) (by omega) HV.out.sep P1.out Q1.out p2 q2
                      exact ⟨((PermI.rot (by omega) (by omega)).mono (by omega) (by omega)).trans hb this.1, this.2⟩
                    clear HV P1 Q1
                    by_cases hr : mid < en ∧ en < b
                    · obtain ⟨hr1, hr2⟩ := hr
                      have C := IH.out mid en b e2' _ (by omega) hr1 hr2 (by rw [Z2.out]; exact hb) Z2.out S3.out R3.out R4.out RC.out
                      first
                        | (exfalso; omega)
                        | (rw [← HEN.out] at C
                           go_wp2_with fail
                           refine C.mono ?_
                           rintro e w3 ⟨rfl, e3, p2, q2, SE⟩
                           have P2 := hide' (FIN.out e3 p2 q2)
                           have S4 : Aside (SW enc w0 blk off e3 w3) := SE
                           clear C S3 p2 q2 SE FIN R3 R4 RC
                           go_wp2
                           go_end0
                           exact ⟨rfl, e3, P2.out.1, P2.out.2, S4.out⟩)
                    · have P2 := hide' (FIN.out e2' (PermI.refl _ _ _) (whole_left (by omega) R3.out R4.out))
                      have hr' : en ≤ mid ∨ b ≤ en := by omega
                      clear hr FIN R3 R4 RC
                      rcases hr' with hr' | hr'
                      all_goals first
                        | (exfalso; omega)
                        | (go_wp2
                           go_end0
                           exact ⟨rfl, e2', P2.out.1, P2.out.2, S3.out⟩)))
end Go.Proofs.Ytdoenkngmgclmaa
