/- What Keep of the reference of scroll returns; no condition but on sizes. -/
import Derived.Test.YtbmkamnjjfmdiaaScR3
import Derived.Test.YtbmkamnjjfmdiaaMixF
namespace Go.Proofs.Ytbmkamnjjfmdiaa
open Go.RowKit Go.Sort
set_option linter.unusedVariables false
set_option linter.unusedSimpArgs false

section
variable {n m a : Nat} {l l' : Nat → Stp} {o : Int}
theorem an_hit (ha : a < n) (h : ∀ j, j < a → hitF n m l l' o j = false) (h2 : hitF n m l l' o a = true) : anF n m l l' o = (a : Int) := by
  have e : fsF (hitF n m l l' o) n 0 = a := fsF_eq (Nat.zero_le _) (by omega) (fun j _ hj => h j hj) (Or.inr h2)
  unfold anF
  rw [e, if_pos ha]
theorem an_last (h : ∀ j, j < n → hitF n m l l' o j = false) : anF n m l l' o = laF (hasF n m l l') n := by
  have e : fsF (hitF n m l l' o) n 0 = n := fsF_eq (Nat.zero_le _) (by omega) (fun j _ hj => h j hj) (Or.inl (by omega))
  unfold anF
  rw [e, if_neg (Nat.lt_irrefl _)]
theorem ke_at (h : ((inRB o && rowsB n l) && rowsB m l') = true) (ha : anF n m l l' o = (a : Int)) : keF n m l l' o = topF l' (ixF m l' (l a).k) + o - topF l a := by
  unfold keF
  rw [h, if_pos rfl, ha, if_neg (by omega), Int.toNat_natCast]
theorem ke_none (h : anF n m l l' o < 0) : keF n m l l' o = 0 := by
  unfold keF
  split <;> rfl
theorem la_no {Q : Nat → Bool} {k : Nat} (h : Q k = false) : laF Q (k + 1) = laF Q k := by simp only [laF]; rw [h, if_neg (by decide)]
theorem la_yes {Q : Nat → Bool} {k : Nat} (h : Q k = true) : laF Q (k + 1) = (k : Int) := by simp only [laF]; rw [h, if_pos rfl]
end
def KeR (m : Nat) (l' : Nat → Stp) (ix : Nat) (o tla : Int) (b : Nat) (u : Value) (W : World) : Prop :=
  if b = 1 then ∃ g kc, u = .slice (some ⟨g, 0, none⟩) (m + 1) kc ∧ CRw W g (m + 1) (topF l') else
  if b = 8 then u = .int .i64 (ix : Int) else
  if b = 9 then ∃ g, u = .pointer (some ⟨g, ix, none⟩) ∧ CRw W g (m + 1) (topF l') else
  if b = 10 then u = .int .i64 (topF l' ix) else
  if b = 12 then u = .int .i64 (topF l' ix + o) else u = .int .i64 (topF l' ix + o - tla)
theorem ke_stays {m ix : Nat} {l' : Nat → Stp} {o tla : Int} {w w' : World} (hB : Below w.heap.size w w') : MJ.Stays (KeR m l' ix o tla) w w' := by
  intro b u h
  unfold KeR at h ⊢
  split
  · rename_i e
    rw [if_pos e] at h
    obtain ⟨g, kc, e1, hc⟩ := h
    exact ⟨g, kc, e1, hc.below hB⟩
  · rename_i e
    rw [if_neg e] at h
    split
    · rename_i e2; rw [if_pos e2] at h; exact h
    · rename_i e2
      rw [if_neg e2] at h
      split
      · rename_i e3
        rw [if_pos e3] at h
        obtain ⟨g, e1, hc⟩ := h
        exact ⟨g, e1, hc.below hB⟩
      · rename_i e3; rw [if_neg e3] at h; exact h
def KeP (v : Int) (w : World) (e : Ending) (w' : World) : Prop := e = .returned (.int .i64 v) ∧ Below w.heap.size w w'
set_option maxHeartbeats 16000000 in
set_option maxRecDepth 100000 in
theorem rke_any (p q : Option Addr) (n m c d : Nat) (l l' : Nat → Stp) (o : Int) (w : World) (hp : SRow w p n 2 (stC l)) (hq : SRow w q m 2 (stC l')) (hn : n ≤ 9223372036854775807) (hm : m ≤ 9223372036854775807) : Calls Try.prog 19 #[.slice p n c, .slice q m d, .int .i64 o] w (KeP (keF n m l l' o) w) := by
  cases h0 : inRB o with
  | false =>
    have K0 := fun W => hide (swi_at o false h0 W)
    have hv := hide (show keF n m l l' o = 0 by simp [keF, h0])
    clear h0 hp hq
    go_enter Try.func19, Try.ntmps19
    go_wp2_with fail
    refine (K0 _).out.mono ?_
    rintro e w' ⟨rfl, rfl⟩
    go_wp2_with fail
    go_ret
    exact ⟨ret_int hv.out.symm, Below.refl _ _⟩
  | true =>
    have K0 := fun W => hide (swi_at o true h0 W)
    have K1 := fun (W : World) => hide (fun (h : W = w) => rrows_any p n c l w hp hn)
    have KR1 := hide (rrows_any p n c l w hp hn)
    have KR2 := hide (rrows_any q m d l' w hq hm)
    clear K1
    cases h1 : rowsB n l with
    | false =>
      rw [h1] at KR1
      have hv := hide (show keF n m l l' o = 0 by simp [keF, h1])
      clear h0 h1 hp hq
      go_enter Try.func19, Try.ntmps19
      go_wp2_with fail
      refine (K0 _).out.mono ?_
      rintro e w' ⟨rfl, rfl⟩
      go_wp2_with fail
      refine KR1.out.mono ?_
      rintro e w' ⟨rfl, rfl⟩
      go_wp2_with fail
      go_ret
      exact ⟨ret_int hv.out.symm, Below.refl _ _⟩
    | true =>
      rw [h1] at KR1
      cases h2 : rowsB m l' with
      | false =>
        rw [h2] at KR2
        have hv := hide (show keF n m l l' o = 0 by simp [keF, h2])
        clear h0 h1 h2 hp hq
        go_enter Try.func19, Try.ntmps19
        go_wp2_with fail
        refine (K0 _).out.mono ?_
        rintro e w' ⟨rfl, rfl⟩
        go_wp2_with fail
        refine KR1.out.mono ?_
        rintro e w' ⟨rfl, hw'⟩
        subst hw'
        go_wp2_with fail
        refine KR2.out.mono ?_
        rintro e w' ⟨rfl, hw'⟩
        subst hw'
        go_wp2_with fail
        go_ret
        exact ⟨ret_int hv.out.symm, Below.refl _ _⟩
      | true =>
        rw [h2] at KR2
        obtain ⟨o1, o2⟩ := inR_iff.1 h0
        have KT := hide (rtops_any p n c l w hp h1)
        have HR2 := hide h2
        have KE := hide (fun a (h : anF n m l l' o = ((a : Nat) : Int)) => ke_at (by rw [h0, h1, h2]; rfl) h)
        have T1 : Hid (∀ i, i ≤ n → 0 ≤ topF l i ∧ topF l i ≤ 10995116277760000) := fun i hi => top_big h1 hi
        have T2 : Hid (∀ i, i ≤ m → 0 ≤ topF l' i ∧ topF l' i ≤ 10995116277760000) := fun i hi => top_big h2 hi
        have HP := hide hp
        have HQ := hide hq
        have hn2 := (rows_iff.1 h1).1
        have hm2 := (rows_iff.1 h2).1
        clear h0 h1 h2 hp hq hn hm
        go_enter Try.func19, Try.ntmps19
        go_wp2_with fail
        refine (K0 _).out.mono ?_
        rintro e w' ⟨rfl, rfl⟩
        go_wp2_with fail
        refine KR1.out.mono ?_
        rintro e w' ⟨rfl, hw'⟩
        subst hw'
        go_wp2_with fail
        refine KR2.out.mono ?_
        rintro e w' ⟨rfl, hw'⟩
        subst hw'
        go_wp2_with fail
        refine KT.out.mono ?_
        rintro e w2 ⟨tb, kt, rfl, hC, -, hB⟩
        have CC := hide hC
        have BB := hide hB
        clear KT KR1 KR2 K0 hC hB
        go_wp2_with fail
        go_loopg [8, 9] (n + 1) (fun g1 va vk wr => ∃ k : Nat, va = .int .i64 (laF (hasF n m l l') k) ∧ vk = .int .i64 (k : Int) ∧ k ≤ n ∧ n - k < g1 ∧ Hid (∀ j, j < k → hitF n m l l' o j = false) ∧ wr = w2)
        case atStart => exact ⟨0, by first | rfl | go_num, by go_num, by omega, by omega, fun i hi => absurd hi (Nat.not_lt_zero _), rfl⟩
        case round =>
          obtain ⟨wz, rfl⟩ : ∃ wz : World, wz = wr := ⟨_, rfl⟩
          obtain ⟨k, rfl, rfl, hk, hg, L1, rfl⟩ := hrel
          by_cases hlt : k < n
          case neg =>
            have hltz : ¬ (k : Int) < (n : Int) := by omega
            obtain rfl : n = k := by omega
            have AN := an_last L1.out
            by_cases hneg : laF (hasF n m l l') n < 0
            · have hv := hide (ke_none (by rw [AN]; exact hneg))
              have d1 : decide (laF (hasF n m l l') n < 0) = true := decide_eq_true hneg
              clear AN L1 hneg
              generalize laF (hasF n m l l') n = av at *
              go_wp2_with fail
              go_ret
              exact ⟨ret_int hv.out.symm, BB.out⟩
            obtain ⟨a, hav⟩ : ∃ a : Nat, laF (hasF n m l l') n = (a : Int) := ⟨(laF (hasF n m l l') n).toNat, by omega⟩
            have hal : a < n := by have := (laF_bd (Q := hasF n m l l') n).2; omega
            have hha : hasF n m l l' a = true := by
              have := laF_at (Q := hasF n m l l') (n := n) (by omega)
              rw [hav, Int.toNat_natCast] at this
              exact this
            rw [hav] at AN ⊢
            have AN := hide AN
            have da : ¬ (a : Int) < 0 := by omega
            clear L1 hneg hav
            go_wp2_with fail
            obtain ⟨lb, off, rfl, hlb, hc⟩ := (HP.out.below BB.out) (by omega)
            have ck : wz.cell? ⟨lb, off + a * 2, none⟩ = some (.string (l a).k) := hc a hal 0 (by decide)
            have ct := CC.out.cell (i := a) (by omega)
            have htb := CC.out.lt
            have hax : ixF m l' (l a).k < m := of_decide_eq_true (show decide (ixF m l' (l a).k < m) = true from hha)
            have KX := hide (fun W (h : Below wz.heap.size wz W) => rix_any q m d l' (l a).k W ((HQ.out.below BB.out).below h) (by omega))
            have KT := hide (fun W (h : Below wz.heap.size wz W) => rtops_any q m d l' W ((HQ.out.below BB.out).below h) HR2.out)
            have ei : iiF m l' (l a).k = (ixF m l' (l a).k : Int) := by unfold iiF; rw [if_pos hax]
            have hv := hide (KE.out a AN.out)
            have t1 := T1.out a (by omega)
            have t2 := T2.out (ixF m l' (l a).k) (by omega)
            rw [ei] at KX
            clear hc ei hha AN CC KE
            generalize (l a).k = key at *
            generalize ixF m l' key = ix at *
            generalize topF l a = ta at *
            obtain ⟨t1a, t1b⟩ := t1
            obtain ⟨t2a, t2b⟩ := t2
            have wa : IntKind.i64.wrap (topF l' ix + o) = topF l' ix + o := wr (by omega) (by omega)
            have ws : IntKind.i64.wrap (topF l' ix + o - ta) = topF l' ix + o - ta := wr (by omega) (by omega)
            have haz : (a : Int) < (n : Int) := by omega
            have haz1 : (a : Int) < (n : Int) + 1 := by omega
            have ha0 : (0 : Int) ≤ (a : Int) := by omega
            have hi0 : (0 : Int) ≤ (ix : Int) := by omega
            have hi1 : (ix : Int) < (m : Int) + 1 := by omega
            have GI : Hid (∀ W, Below wz.heap.size wz W → Below wz.heap.size wz W ∧ W.cell? ⟨lb, off + a * 2, none⟩ = some (.string key) ∧ W.cell? ⟨tb, a, none⟩ = some (.int .i64 ta)) := fun W h => ⟨h, (h.cell (p := ⟨lb, off + a * 2, none⟩) hlb).trans ck, (h.cell (p := ⟨tb, a, none⟩) htb).trans ct⟩
            refine MJ.wp_region_free (fun W' => Below wz.heap.size wz W' ∧ W'.cell? ⟨lb, off + a * 2, none⟩ = some (.string key) ∧ W'.cell? ⟨tb, a, none⟩ = some (.int .i64 ta)) (KeR m l' ix o ta) [1, 8, 9, 10, 12, 17, 18] [(50, 1), (57, 8), (58, 9), (59, 10), (61, 12), (66, 17), (6, 18)] (by kernel_rfl) (by kernel_rfl) (by simp) ?h0 ?_
            case h0 => exact GI.out _ ⟨rfl, rfl, rfl, Nat.le_refl _, fun _ _ => rfl⟩
            repeat (refine MJ.lex_calm rfl (by rfl) (fun K hK => ?_); apply Exists.intro; refine ⟨fun W' hW => ?_, ?_⟩; (dsimp only at hW; go_simp; exact rfl); go_simp; refine hK _ ?_; clear hK K)
            refine MJ.lex_free (by rfl) rfl ?_ ?_
            · rintro vs W hI _
              have K := hide (KT.out W hI.1)
              have HI := hide hI.1
              clear hI
              simp [go_sem, evS, List.lookup]
              refine K.out.mono ?_
              rintro e w' ⟨g, kc, rfl, hC, -, hB⟩
              exact ⟨_, rfl, GI.out _ (HI.out.trans (hB.mono HI.out.size)), ⟨g, kc, rfl, hC⟩, ke_stays hB⟩
            repeat (refine MJ.lex_calm rfl (by rfl) (fun K hK => ?_); apply Exists.intro; refine ⟨fun W' hW => ?_, ?_⟩; (dsimp only at hW; go_simp; exact rfl); go_simp; refine hK _ ?_; clear hK K)
            refine MJ.lex_free (by rfl) rfl ?_ ?_
            · rintro vs W hI _
              have K := hide (KX.out W hI.1)
              have HI := hide hI
              clear hI
              simp [go_sem, evS, List.lookup]
              refine K.out.mono ?_
              rintro e w' ⟨rfl, hw⟩
              subst hw
              exact ⟨_, rfl, HI.out, rfl, fun _ _ h => h⟩
            repeat (refine MJ.lex_calm rfl (by rfl) (fun K hK => ?_); apply Exists.intro; refine ⟨fun W' hW => ?_, ?_⟩; (dsimp only at hW; go_simp; exact rfl); go_simp; refine hK _ ?_; clear hK K)
            refine MJ.lex_free (by rfl) rfl ?_ ?_
            · rintro vs W hI hR
              have ⟨g, kc, e1, hC⟩ := (show ∃ g kc, vs 1 = .slice (some ⟨g, 0, none⟩) (m + 1) kc ∧ CRw W g (m + 1) (topF l') from hR 1 (by simp) (by kernel_rfl))
              have e8 : vs 8 = .int .i64 (ix : Int) := hR 8 (by simp) (by kernel_rfl)
              have FIN : Hid ((Below wz.heap.size wz W ∧ W.cell? ⟨lb, off + a * 2, none⟩ = some (.string key) ∧ W.cell? ⟨tb, a, none⟩ = some (.int .i64 ta)) ∧ KeR m l' ix o ta 9 (.pointer (some ⟨g, ix, none⟩)) W ∧ MJ.Stays (KeR m l' ix o ta) W W) := ⟨hI, ⟨g, rfl, hC⟩, fun _ _ h => h⟩
              clear hI hR hC
              simp [go_sem, evS, List.lookup, e1, e8, hi0, hi1]
              exact FIN.out
            repeat (refine MJ.lex_calm rfl (by rfl) (fun K hK => ?_); apply Exists.intro; refine ⟨fun W' hW => ?_, ?_⟩; (dsimp only at hW; go_simp; exact rfl); go_simp; refine hK _ ?_; clear hK K)
            refine MJ.lex_free (by rfl) rfl ?_ ?_
            · rintro vs W hI hR
              have ⟨g, e9, hC⟩ := (show ∃ g, vs 9 = .pointer (some ⟨g, ix, none⟩) ∧ CRw W g (m + 1) (topF l') from hR 9 (by simp) (by kernel_rfl))
              have cx := hC.cell (i := ix) (by omega)
              have FIN : Hid ((Below wz.heap.size wz W ∧ W.cell? ⟨lb, off + a * 2, none⟩ = some (.string key) ∧ W.cell? ⟨tb, a, none⟩ = some (.int .i64 ta)) ∧ KeR m l' ix o ta 10 (.int .i64 (topF l' ix)) W ∧ MJ.Stays (KeR m l' ix o ta) W W) := ⟨hI, rfl, fun _ _ h => h⟩
              clear hI hR hC
              simp [go_sem, evS, List.lookup, e9, cx]
              exact FIN.out
            repeat (refine MJ.lex_calm rfl (by rfl) (fun K hK => ?_); apply Exists.intro; refine ⟨fun W' hW => ?_, ?_⟩; (dsimp only at hW; go_simp; exact rfl); go_simp; refine hK _ ?_; clear hK K)
            refine MJ.lex_free (by rfl) rfl ?_ ?_
            · rintro vs W hI hR
              have e10 : vs 10 = .int .i64 (topF l' ix) := hR 10 (by simp) (by kernel_rfl)
              have FIN : Hid ((Below wz.heap.size wz W ∧ W.cell? ⟨lb, off + a * 2, none⟩ = some (.string key) ∧ W.cell? ⟨tb, a, none⟩ = some (.int .i64 ta)) ∧ KeR m l' ix o ta 12 (.int .i64 (topF l' ix + o)) W ∧ MJ.Stays (KeR m l' ix o ta) W W) := ⟨hI, rfl, fun _ _ h => h⟩
              clear hI hR
              simp [go_sem, evS, List.lookup, e10, wa]
              exact FIN.out
            repeat (refine MJ.lex_calm rfl (by rfl) (fun K hK => ?_); apply Exists.intro; refine ⟨fun W' hW => ?_, ?_⟩; (dsimp only at hW; go_simp; exact rfl); go_simp; refine hK _ ?_; clear hK K)
            refine MJ.lex_free (by rfl) rfl ?_ ?_
            · rintro vs W hI hR
              have e12 : vs 12 = .int .i64 (topF l' ix + o) := hR 12 (by simp) (by kernel_rfl)
              have FIN : Hid ((Below wz.heap.size wz W ∧ W.cell? ⟨lb, off + a * 2, none⟩ = some (.string key) ∧ W.cell? ⟨tb, a, none⟩ = some (.int .i64 ta)) ∧ KeR m l' ix o ta 17 (.int .i64 (topF l' ix + o - ta)) W ∧ MJ.Stays (KeR m l' ix o ta) W W) := ⟨hI, rfl, fun _ _ h => h⟩
              clear hI hR
              simp [go_sem, evS, List.lookup, e12, ws]
              exact FIN.out
            repeat (refine MJ.lex_calm rfl (by rfl) (fun K hK => ?_); apply Exists.intro; refine ⟨fun W' hW => ?_, ?_⟩; (dsimp only at hW; go_simp; exact rfl); go_simp; refine hK _ ?_; clear hK K)
            refine MJ.lex_free (by rfl) rfl ?_ ?_
            · rintro vs W hI hR
              have e17 : vs 17 = .int .i64 (topF l' ix + o - ta) := hR 17 (by simp) (by kernel_rfl)
              have FIN : Hid ((Below wz.heap.size wz W ∧ W.cell? ⟨lb, off + a * 2, none⟩ = some (.string key) ∧ W.cell? ⟨tb, a, none⟩ = some (.int .i64 ta)) ∧ KeR m l' ix o ta 18 (.int .i64 (topF l' ix + o - ta)) W ∧ MJ.Stays (KeR m l' ix o ta) W W) := ⟨hI, rfl, fun _ _ h => h⟩
              clear hI hR
              simp [go_sem, evS, List.lookup, e17]
              exact FIN.out
            refine MJ.lex_nil ?_
            intro vs W hI hR
            have e18 : vs 18 = .int .i64 (topF l' ix + o - ta) := hR 18 (by simp)
            have B9 : Hid (Below w.heap.size w W) := BB.out.trans (hI.1.mono BB.out.size)
            clear hI hR GI KX KT BB HP HQ T1 T2 HR2
            simp only [fillS, List.foldl_cons, List.foldl_nil, e18]
            go_wp2_with fail
            go_simp
            go_ret
            exact ⟨ret_int hv.out.symm, B9.out⟩
          have hltz : (k : Int) < (n : Int) := by omega
          have hk0 : (0 : Int) ≤ (k : Int) := by omega
          obtain ⟨lb, off, rfl, hlb, hc⟩ := (HP.out.below BB.out) (by omega)
          have c0 : wz.cell? ⟨lb, off + k * 2, none⟩ = some (.string (l k).k) := hc k hlt 0 (by decide)
          have KX := hide (rix_any q m d l' (l k).k wz (HQ.out.below BB.out) (by omega))
          cases hh : hasF n m l l' k with
          | false =>
            have L2 : Hid (∀ j, j < k + 1 → hitF n m l l' o j = false) := fun j hj => by
              by_cases e : j = k
              · subst e; simp [hitF, hh]
              · exact L1.out j (by omega)
            have LA : Hid (laF (hasF n m l l') (k + 1) = laF (hasF n m l l') k) := la_no hh
            have ei : iiF m l' (l k).k = -1 := by
              unfold iiF
              rw [if_neg (of_decide_eq_false (show decide (ixF m l' (l k).k < m) = false from hh))]
            rw [ei] at KX
            clear L1 hc hlb hh ei
            generalize (l k).k = key at *
            go_wp2_with fail
            refine KX.out.mono ?_
            rintro e w9 ⟨rfl, hw⟩
            subst hw
            go_wp2_with fail
            go_roundg (n - k)
            case measure => exact hg
            case rel => exact ⟨k + 1, by rw [LA.out], by go_num, by omega, by omega, L2, rfl⟩
          | true =>
            have hix : ixF m l' (l k).k < m := of_decide_eq_true (show decide (ixF m l' (l k).k < m) = true from hh)
            have ei : iiF m l' (l k).k = (ixF m l' (l k).k : Int) := by unfold iiF; rw [if_pos hix]
            have LA : Hid (laF (hasF n m l l') (k + 1) = (k : Int)) := la_yes hh
            have c1 := CC.out.cell (i := k + 1) (by omega)
            have hlz1 : (k : Int) + 1 < (n : Int) + 1 := by omega
            have tn : ((k : Int) + 1).toNat = k + 1 := by omega
            have hk1 : (0 : Int) ≤ (k : Int) + 1 := by omega
            have wk : IntKind.i64.wrap ((k : Int) + 1) = (k : Int) + 1 := wr (by omega) (by omega)
            have dx : ¬ ((ixF m l' (l k).k : Nat) : Int) < 0 := by omega
            rw [ei] at KX
            by_cases ht : o < topF l (k + 1)
            · have d1 : decide (o < topF l (k + 1)) = true := decide_eq_true ht
              have AN := hide (an_hit hlt L1.out (by simp [hitF, hh, ht]))
              obtain ⟨a, ha⟩ : ∃ a, a = k := ⟨_, rfl⟩
              have hal : a < n := by omega
              have hha : hasF n m l l' a = true := by rw [ha]; exact hh
              rw [← ha] at AN
              have da : ¬ (a : Int) < 0 := by omega
              have HL := hide (And.intro hlb hc)
              clear L1 hc hlb hh ei hix ht LA
              generalize (l k).k = key at *
              generalize topF l (k + 1) = tk at *
              go_wp2_with fail
              refine KX.out.mono ?_
              rintro e w9 ⟨rfl, hw⟩
              subst hw
              rw [← ha] at *
              go_wp2_with fail
              clear KX dx c0 c1 hlz1 tn hk1 wk d1 hltz hk0
              obtain ⟨hlb, hc⟩ := HL.out
              have ck : wz.cell? ⟨lb, off + a * 2, none⟩ = some (.string (l a).k) := hc a hal 0 (by decide)
              have ct := CC.out.cell (i := a) (by omega)
              have htb := CC.out.lt
              have hax : ixF m l' (l a).k < m := of_decide_eq_true (show decide (ixF m l' (l a).k < m) = true from hha)
              have KX := hide (fun W (h : Below wz.heap.size wz W) => rix_any q m d l' (l a).k W ((HQ.out.below BB.out).below h) (by omega))
              have KT := hide (fun W (h : Below wz.heap.size wz W) => rtops_any q m d l' W ((HQ.out.below BB.out).below h) HR2.out)
              have ei : iiF m l' (l a).k = (ixF m l' (l a).k : Int) := by unfold iiF; rw [if_pos hax]
              have hv := hide (KE.out a AN.out)
              have t1 := T1.out a (by omega)
              have t2 := T2.out (ixF m l' (l a).k) (by omega)
              rw [ei] at KX
              clear hc ei hha AN CC KE
              generalize (l a).k = key at *
              generalize ixF m l' key = ix at *
              generalize topF l a = ta at *
              obtain ⟨t1a, t1b⟩ := t1
              obtain ⟨t2a, t2b⟩ := t2
              have wa : IntKind.i64.wrap (topF l' ix + o) = topF l' ix + o := wr (by omega) (by omega)
              have ws : IntKind.i64.wrap (topF l' ix + o - ta) = topF l' ix + o - ta := wr (by omega) (by omega)
              have haz : (a : Int) < (n : Int) := by omega
              have haz1 : (a : Int) < (n : Int) + 1 := by omega
              have ha0 : (0 : Int) ≤ (a : Int) := by omega
              have hi0 : (0 : Int) ≤ (ix : Int) := by omega
              have hi1 : (ix : Int) < (m : Int) + 1 := by omega
              have GI : Hid (∀ W, Below wz.heap.size wz W → Below wz.heap.size wz W ∧ W.cell? ⟨lb, off + a * 2, none⟩ = some (.string key) ∧ W.cell? ⟨tb, a, none⟩ = some (.int .i64 ta)) := fun W h => ⟨h, (h.cell (p := ⟨lb, off + a * 2, none⟩) hlb).trans ck, (h.cell (p := ⟨tb, a, none⟩) htb).trans ct⟩
              refine MJ.wp_region_free (fun W' => Below wz.heap.size wz W' ∧ W'.cell? ⟨lb, off + a * 2, none⟩ = some (.string key) ∧ W'.cell? ⟨tb, a, none⟩ = some (.int .i64 ta)) (KeR m l' ix o ta) [1, 8, 9, 10, 12, 17, 18] [(50, 1), (57, 8), (58, 9), (59, 10), (61, 12), (66, 17), (6, 18)] (by kernel_rfl) (by kernel_rfl) (by simp) ?h0 ?_
              case h0 => exact GI.out _ ⟨rfl, rfl, rfl, Nat.le_refl _, fun _ _ => rfl⟩
              repeat (refine MJ.lex_calm rfl (by rfl) (fun K hK => ?_); apply Exists.intro; refine ⟨fun W' hW => ?_, ?_⟩; (dsimp only at hW; go_simp; exact rfl); go_simp; refine hK _ ?_; clear hK K)
              refine MJ.lex_free (by rfl) rfl ?_ ?_
              · rintro vs W hI _
                have K := hide (KT.out W hI.1)
                have HI := hide hI.1
                clear hI
                simp [go_sem, evS, List.lookup]
                refine K.out.mono ?_
                rintro e w' ⟨g, kc, rfl, hC, -, hB⟩
                exact ⟨_, rfl, GI.out _ (HI.out.trans (hB.mono HI.out.size)), ⟨g, kc, rfl, hC⟩, ke_stays hB⟩
              repeat (refine MJ.lex_calm rfl (by rfl) (fun K hK => ?_); apply Exists.intro; refine ⟨fun W' hW => ?_, ?_⟩; (dsimp only at hW; go_simp; exact rfl); go_simp; refine hK _ ?_; clear hK K)
              refine MJ.lex_free (by rfl) rfl ?_ ?_
              · rintro vs W hI _
                have K := hide (KX.out W hI.1)
                have HI := hide hI
                clear hI
                simp [go_sem, evS, List.lookup]
                refine K.out.mono ?_
                rintro e w' ⟨rfl, hw⟩
                subst hw
                exact ⟨_, rfl, HI.out, rfl, fun _ _ h => h⟩
              repeat (refine MJ.lex_calm rfl (by rfl) (fun K hK => ?_); apply Exists.intro; refine ⟨fun W' hW => ?_, ?_⟩; (dsimp only at hW; go_simp; exact rfl); go_simp; refine hK _ ?_; clear hK K)
              refine MJ.lex_free (by rfl) rfl ?_ ?_
              · rintro vs W hI hR
                have ⟨g, kc, e1, hC⟩ := (show ∃ g kc, vs 1 = .slice (some ⟨g, 0, none⟩) (m + 1) kc ∧ CRw W g (m + 1) (topF l') from hR 1 (by simp) (by kernel_rfl))
                have e8 : vs 8 = .int .i64 (ix : Int) := hR 8 (by simp) (by kernel_rfl)
                have FIN : Hid ((Below wz.heap.size wz W ∧ W.cell? ⟨lb, off + a * 2, none⟩ = some (.string key) ∧ W.cell? ⟨tb, a, none⟩ = some (.int .i64 ta)) ∧ KeR m l' ix o ta 9 (.pointer (some ⟨g, ix, none⟩)) W ∧ MJ.Stays (KeR m l' ix o ta) W W) := ⟨hI, ⟨g, rfl, hC⟩, fun _ _ h => h⟩
                clear hI hR hC
                simp [go_sem, evS, List.lookup, e1, e8, hi0, hi1]
                exact FIN.out
              repeat (refine MJ.lex_calm rfl (by rfl) (fun K hK => ?_); apply Exists.intro; refine ⟨fun W' hW => ?_, ?_⟩; (dsimp only at hW; go_simp; exact rfl); go_simp; refine hK _ ?_; clear hK K)
              refine MJ.lex_free (by rfl) rfl ?_ ?_
              · rintro vs W hI hR
                have ⟨g, e9, hC⟩ := (show ∃ g, vs 9 = .pointer (some ⟨g, ix, none⟩) ∧ CRw W g (m + 1) (topF l') from hR 9 (by simp) (by kernel_rfl))
                have cx := hC.cell (i := ix) (by omega)
                have FIN : Hid ((Below wz.heap.size wz W ∧ W.cell? ⟨lb, off + a * 2, none⟩ = some (.string key) ∧ W.cell? ⟨tb, a, none⟩ = some (.int .i64 ta)) ∧ KeR m l' ix o ta 10 (.int .i64 (topF l' ix)) W ∧ MJ.Stays (KeR m l' ix o ta) W W) := ⟨hI, rfl, fun _ _ h => h⟩
                clear hI hR hC
                simp [go_sem, evS, List.lookup, e9, cx]
                exact FIN.out
              repeat (refine MJ.lex_calm rfl (by rfl) (fun K hK => ?_); apply Exists.intro; refine ⟨fun W' hW => ?_, ?_⟩; (dsimp only at hW; go_simp; exact rfl); go_simp; refine hK _ ?_; clear hK K)
              refine MJ.lex_free (by rfl) rfl ?_ ?_
              · rintro vs W hI hR
                have e10 : vs 10 = .int .i64 (topF l' ix) := hR 10 (by simp) (by kernel_rfl)
                have FIN : Hid ((Below wz.heap.size wz W ∧ W.cell? ⟨lb, off + a * 2, none⟩ = some (.string key) ∧ W.cell? ⟨tb, a, none⟩ = some (.int .i64 ta)) ∧ KeR m l' ix o ta 12 (.int .i64 (topF l' ix + o)) W ∧ MJ.Stays (KeR m l' ix o ta) W W) := ⟨hI, rfl, fun _ _ h => h⟩
                clear hI hR
                simp [go_sem, evS, List.lookup, e10, wa]
                exact FIN.out
              repeat (refine MJ.lex_calm rfl (by rfl) (fun K hK => ?_); apply Exists.intro; refine ⟨fun W' hW => ?_, ?_⟩; (dsimp only at hW; go_simp; exact rfl); go_simp; refine hK _ ?_; clear hK K)
              refine MJ.lex_free (by rfl) rfl ?_ ?_
              · rintro vs W hI hR
                have e12 : vs 12 = .int .i64 (topF l' ix + o) := hR 12 (by simp) (by kernel_rfl)
                have FIN : Hid ((Below wz.heap.size wz W ∧ W.cell? ⟨lb, off + a * 2, none⟩ = some (.string key) ∧ W.cell? ⟨tb, a, none⟩ = some (.int .i64 ta)) ∧ KeR m l' ix o ta 17 (.int .i64 (topF l' ix + o - ta)) W ∧ MJ.Stays (KeR m l' ix o ta) W W) := ⟨hI, rfl, fun _ _ h => h⟩
                clear hI hR
                simp [go_sem, evS, List.lookup, e12, ws]
                exact FIN.out
              repeat (refine MJ.lex_calm rfl (by rfl) (fun K hK => ?_); apply Exists.intro; refine ⟨fun W' hW => ?_, ?_⟩; (dsimp only at hW; go_simp; exact rfl); go_simp; refine hK _ ?_; clear hK K)
              refine MJ.lex_free (by rfl) rfl ?_ ?_
              · rintro vs W hI hR
                have e17 : vs 17 = .int .i64 (topF l' ix + o - ta) := hR 17 (by simp) (by kernel_rfl)
                have FIN : Hid ((Below wz.heap.size wz W ∧ W.cell? ⟨lb, off + a * 2, none⟩ = some (.string key) ∧ W.cell? ⟨tb, a, none⟩ = some (.int .i64 ta)) ∧ KeR m l' ix o ta 18 (.int .i64 (topF l' ix + o - ta)) W ∧ MJ.Stays (KeR m l' ix o ta) W W) := ⟨hI, rfl, fun _ _ h => h⟩
                clear hI hR
                simp [go_sem, evS, List.lookup, e17]
                exact FIN.out
              refine MJ.lex_nil ?_
              intro vs W hI hR
              have e18 : vs 18 = .int .i64 (topF l' ix + o - ta) := hR 18 (by simp)
              have B9 : Hid (Below w.heap.size w W) := BB.out.trans (hI.1.mono BB.out.size)
              clear hI hR GI KX KT BB HP HQ T1 T2 HR2
              simp only [fillS, List.foldl_cons, List.foldl_nil, e18]
              go_wp2_with fail
              go_simp
              go_ret
              exact ⟨ret_int hv.out.symm, B9.out⟩
            · have d1 : decide (o < topF l (k + 1)) = false := decide_eq_false ht
              have L2 : Hid (∀ j, j < k + 1 → hitF n m l l' o j = false) := fun j hj => by
                by_cases e : j = k
                · subst e; simp [hitF, ht]
                · exact L1.out j (by omega)
              clear L1 hc hlb hh ei hix ht
              generalize (l k).k = key at *
              generalize topF l (k + 1) = tk at *
              go_wp2_with fail
              refine KX.out.mono ?_
              rintro e w9 ⟨rfl, hw⟩
              subst hw
              go_wp2_with fail
              go_roundg (n - k)
              case measure => exact hg
              case rel => exact ⟨k + 1, by rw [LA.out], by go_num, by omega, by omega, L2, rfl⟩
end Go.Proofs.Ytbmkamnjjfmdiaa
