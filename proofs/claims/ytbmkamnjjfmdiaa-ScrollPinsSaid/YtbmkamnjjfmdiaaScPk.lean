/- What Keep of package scroll returns; no condition but on sizes. -/
import Derived.Test.YtbmkamnjjfmdiaaScPm
namespace Go.Proofs.Ytbmkamnjjfmdiaa
open Go.RowKit Go.Sort Go.Maps
set_option linter.unusedVariables false
set_option linter.unusedSimpArgs false

/-- The offset that is kept after k rows. -/
def ktF (n m : Nat) (l l' : Nat → Stp) (o : Int) (k : Nat) : Int := if laF (hasF n m l l') k < 0 then 0 else topF l' (ixF m l' (l (laF (hasF n m l l') k).toNat).k) + o - topF l (laF (hasF n m l l') k).toNat
section
variable {n m k : Nat} {l l' : Nat → Stp} {o : Int}
theorem pkt_zero : ktF n m l l' o 0 = 0 := rfl
theorem pkt_no (h : hasF n m l l' k = false) : ktF n m l l' o (k + 1) = ktF n m l l' o k := by unfold ktF; rw [la_no h]
theorem pkt_yes (h : hasF n m l l' k = true) : ktF n m l l' o (k + 1) = topF l' (ixF m l' (l k).k) + o - topF l k := by
  unfold ktF
  rw [la_yes h, if_neg (by omega), Int.toNat_natCast]
theorem pk_last (hv : ((inRB o && rowsB n l) && rowsB m l') = true) (h : ∀ j, j < n → hitF n m l l' o j = false) : keF n m l l' o = ktF n m l l' o n := by
  unfold keF ktF
  rw [hv, if_pos rfl, an_last h]
theorem pk_hit (hv : ((inRB o && rowsB n l) && rowsB m l') = true) (hk : k < n) (h : ∀ j, j < k → hitF n m l l' o j = false) (h1 : hasF n m l l' k = true) (h2 : o < topF l (k + 1)) : keF n m l l' o = ktF n m l l' o (k + 1) := by
  rw [ke_at hv (an_hit hk h (by unfold hitF; rw [h1, decide_eq_true h2]; rfl)), pkt_yes h1]
end
set_option maxHeartbeats 16000000 in
set_option maxRecDepth 100000 in
theorem pke_any (p q : Option Addr) (n m c d : Nat) (l l' : Nat → Stp) (o : Int) (w : World) (hp : SRow w p n 2 (stC l)) (hq : SRow w q m 2 (stC l')) (hn : n ≤ 9223372036854775807) (hm : m ≤ 9223372036854775807)
    (hk1 : ∀ i, i < n → (l i).k.size ≤ 9223372036854775807) (hk2 : ∀ i, i < m → (l' i).k.size ≤ 9223372036854775807) : Calls Try.prog 18 #[.slice p n c, .slice q m d, .int .i64 o] w (KeP (keF n m l l' o) w) := by
  have G := hide (fun o => (Below.refl w.heap.size w).alloc (Nat.le_refl _) o)
  have M := hide (inr1 o w)
  cases h0 : inRB o with
  | false =>
    rw [h0] at M
    have hv := hide (show keF n m l l' o = 0 by simp [keF, h0])
    clear h0 hp hq
    go_enter Try.func18, Try.ntmps18
    go_wp2_with fail
    refine M.out.mono ?_
    rintro e w' ⟨rfl, rfl⟩
    go_wp2_with fail
    go_ret
    exact ⟨ret_int hv.out.symm, G.out _⟩
  | true =>
    rw [h0] at M
    have KR1 := hide (fun w' (hB : Below w.heap.size w w') => pvr_any p n c l w' (hp.below hB) hn)
    have KR2 := hide (fun w' (hB : Below w.heap.size w w') => pvr_any q m d l' w' (hq.below hB) hm)
    cases h1 : rowsB n l with
    | false =>
      rw [h1] at KR1
      have hv := hide (show keF n m l l' o = 0 by simp [keF, h1])
      clear h0 h1 hp hq
      go_enter Try.func18, Try.ntmps18
      go_wp2_with fail
      refine M.out.mono ?_
      rintro e w' ⟨rfl, rfl⟩
      go_wp2_with fail
      refine (KR1.out _ (G.out _)).mono ?_
      rintro e w' ⟨rfl, hB⟩
      have B1 := hide ((G.out _).trans (hB.mono (G.out _).size))
      clear hB
      go_wp2_with fail
      go_ret
      exact ⟨ret_int hv.out.symm, B1.out⟩
    | true =>
      rw [h1] at KR1
      cases h2 : rowsB m l' with
      | false =>
        rw [h2] at KR2
        have hv := hide (show keF n m l l' o = 0 by simp [keF, h2])
        clear h0 h1 h2 hp hq
        go_enter Try.func18, Try.ntmps18
        go_wp2_with fail
        refine M.out.mono ?_
        rintro e w' ⟨rfl, rfl⟩
        go_wp2_with fail
        refine (KR1.out _ (G.out _)).mono ?_
        rintro e w' ⟨rfl, hB⟩
        have B1 := hide ((G.out _).trans (hB.mono (G.out _).size))
        clear hB
        go_wp2_with fail
        refine (KR2.out _ B1.out).mono ?_
        rintro e w'' ⟨rfl, hB⟩
        have B2 := hide (B1.out.trans (hB.mono B1.out.size))
        clear hB
        go_wp2_with fail
        go_ret
        exact ⟨ret_int hv.out.symm, B2.out⟩
      | true =>
        rw [h2] at KR2
        have KT := hide (fun w' (hB : Below w.heap.size w w') => ptk_any q m d l' w' (hq.below hB) h2 hk2)
        obtain ⟨o1, o2⟩ := inR_iff.1 h0
        have HV := hide (show ((inRB o && rowsB n l) && rowsB m l') = true by rw [h0, h1, h2]; rfl)
        have T1 : Hid (∀ i, i ≤ n → 0 ≤ topF l i ∧ topF l i ≤ 10995116277760000) := fun i hi => top_big h1 hi
        have T2 : Hid (∀ i, i ≤ m → 0 ≤ topF l' i ∧ topF l' i ≤ 10995116277760000) := fun i hi => top_big h2 hi
        have HP := hide hp
        have SZ := hide hk1
        have hn2 := (rows_iff.1 h1).1
        have hm2 := (rows_iff.1 h2).1
        clear h0 h1 h2 hp hq hn hm hk1 hk2
        go_enter Try.func18, Try.ntmps18
        go_wp2_with fail
        refine M.out.mono ?_
        rintro e w' ⟨rfl, rfl⟩
        go_wp2_with fail
        refine (KR1.out _ (G.out _)).mono ?_
        rintro e w' ⟨rfl, hB⟩
        have B1 := hide ((G.out _).trans (hB.mono (G.out _).size))
        clear hB G KR1 M
        go_wp2_with fail
        refine (KR2.out _ B1.out).mono ?_
        rintro e w2 ⟨rfl, hB⟩
        have B2 := hide (B1.out.trans (hB.mono B1.out.size))
        clear hB B1 KR2
        go_wp2_with fail
        refine (KT.out _ B2.out).mono ?_
        rintro e w3 ⟨mb, rfl, hM, hB⟩
        have BB := hide (B2.out.trans (hB.mono B2.out.size))
        have MM := hide hM
        clear hB B2 KT hM
        go_wp2_with fail
        go_loopg [8, 9, 33] (n + 1) (fun g1 va vt vk wr => ∃ k : Nat, va = .int .i64 (ktF n m l l' o k) ∧ vt = .int .i64 (topF l k) ∧ vk = .int .i64 (k : Int) ∧ k ≤ n ∧ n - k < g1 ∧ Hid (∀ j, j < k → hitF n m l l' o j = false) ∧ Hid (TM wr mb m l') ∧ Hid (Below w.heap.size w wr))
        case atStart => exact ⟨0, by first | rfl | go_num, by first | rfl | go_num, by go_num, by omega, by omega, fun i hi => absurd hi (Nat.not_lt_zero _), MM, BB⟩
        case round =>
          clear MM BB
          obtain ⟨wo, rfl⟩ : ∃ wo : World, wo = wr := ⟨_, rfl⟩
          obtain ⟨k, rfl, rfl, rfl, hk, hg, L1, MM, BB⟩ := hrel
          by_cases hlt : k < n
          case neg =>
            have hltz : ¬ (k : Int) < (n : Int) := by omega
            obtain rfl : n = k := by omega
            have hv := hide (pk_last HV.out L1.out)
            have B9 := hide BB.out
            clear L1 HV T1 T2 HP SZ MM BB
            generalize ktF n m l l' o n = kt at *
            generalize topF l n = tn at *
            go_wp2_with fail
            go_ret
            exact ⟨ret_int hv.out.symm, B9.out⟩
          have hltz : (k : Int) < (n : Int) := by omega
          have hk0 : (0 : Int) ≤ (k : Int) := by omega
          obtain ⟨b, off, rfl, hb, hc⟩ := (HP.out.below BB.out) (by omega)
          have c0 : wo.cell? ⟨b, off + k * 2, none⟩ = some (.string (l k).k) := hc k hlt 0 (by decide)
          have c1 : wo.cell? ⟨b, off + k * 2 + 1, none⟩ = some (.int .i64 (l k).h) := hc k hlt 1 (by decide)
          have hsz := SZ.out k hlt
          have TS : Hid (topF l k + (l k).h = topF l (k + 1)) := rfl
          have tb := T1.out (k + 1) (by omega)
          rw [top_succ] at tb
          obtain ⟨tb1, tb2⟩ := tb
          have wt : IntKind.i64.wrap (topF l k + (l k).h) = topF l k + (l k).h := wr (by omega) (by omega)
          have ta := T1.out k (by omega)
          obtain ⟨ta1, ta2⟩ := ta
          have MA : Hid (∀ o, TM (wo.alloc o) mb m l') := fun o => MM.out.alloc o
          have BA : Hid (∀ o, Below w.heap.size w (wo.alloc o)) := fun o => BB.out.alloc BB.out.size o
          clear hc hb MM BB
          have hsd : hasF n m l l' k = decide (ixF m l' (l k).k < m) := rfl
          by_cases hd : ixF m l' (l k).k < m
          case neg =>
            have dd : decide (ixF m l' (l k).k < m) = false := decide_eq_false hd
            have KN := hide (pkt_no (o := o) (hsd.trans dd))
            have L2 : Hid (∀ j, j < k + 1 → hitF n m l l' o j = false) := fun j hj => by
              by_cases e : j = k
              · subst e; unfold hitF; rw [hsd, dd]; rfl
              · exact L1.out j (by omega)
            clear hd hsd L1 T1 T2 HV
            generalize ktF n m l l' o k = kt at *
            generalize topF l k = tk at *
            generalize (l k).h = hk' at *
            generalize (l k).k = ky at *
            go_wp2_with (at_lookup; refine wpList_tm_look _ rfl _ _ rfl mb m l' (MA.out _) rfl ky rfl hsz ?_; intro cc hcc; rw [dd]; clear hcc)
            go_wp2_with fail
            go_roundg (n - k)
            case measure => exact hg
            case rel => exact ⟨k + 1, by rw [KN.out], by rw [← TS.out], by go_num, by omega, by omega, L2, MA.out _, BA.out _⟩
          have dd : decide (ixF m l' (l k).k < m) = true := decide_eq_true hd
          have t2 := T2.out (ixF m l' (l k).k) (by omega)
          obtain ⟨t2a, t2b⟩ := t2
          have KY := hide (pkt_yes (o := o) (hsd.trans dd))
          have wa : IntKind.i64.wrap (topF l' (ixF m l' (l k).k) + o) = topF l' (ixF m l' (l k).k) + o := wr (by omega) (by omega)
          have ws : IntKind.i64.wrap (topF l' (ixF m l' (l k).k) + o - topF l k) = topF l' (ixF m l' (l k).k) + o - topF l k := wr (by omega) (by omega)
          obtain ⟨tx, htx⟩ : ∃ tx, topF l' (ixF m l' (l k).k) = tx := ⟨_, rfl⟩
          have HC : Hid (∀ c : Int, (ixF m l' (l k).k < m → c = topF l' (ixF m l' (l k).k)) → c = tx) := fun c h => (h hd).trans htx
          rw [htx] at KY wa ws t2a t2b
          clear htx
          by_cases ht : o < topF l k + (l k).h
          · have d1 : decide (o < topF l k + (l k).h) = true := decide_eq_true ht
            have hv := hide ((pk_hit HV.out hlt L1.out (hsd.trans dd) (by rw [top_succ]; exact ht)).trans KY.out)
            clear hd hsd L1 T1 T2 HV KY ht
            generalize ktF n m l l' o k = kt at *
            generalize topF l k = tk at *
            generalize (l k).h = hk' at *
            generalize (l k).k = ky at *
            go_wp2_with (at_lookup; refine wpList_tm_look _ rfl _ _ rfl mb m l' (MA.out _) rfl ky rfl hsz ?_; intro cc hcc; rw [dd, HC.out cc hcc]; clear hcc)
            go_wp2_with fail
            go_ret
            exact ⟨ret_int hv.out.symm, BA.out _⟩
          · have d1 : decide (o < topF l k + (l k).h) = false := decide_eq_false ht
            have L2 : Hid (∀ j, j < k + 1 → hitF n m l l' o j = false) := fun j hj => by
              by_cases e : j = k
              · subst e
                unfold hitF
                rw [show decide (o < topF l (j + 1)) = false from decide_eq_false ht, Bool.and_false]
              · exact L1.out j (by omega)
            clear hd hsd L1 T1 T2 HV ht
            generalize ktF n m l l' o k = kt at *
            generalize topF l k = tk at *
            generalize (l k).h = hk' at *
            generalize (l k).k = ky at *
            go_wp2_with (at_lookup; refine wpList_tm_look _ rfl _ _ rfl mb m l' (MA.out _) rfl ky rfl hsz ?_; intro cc hcc; rw [dd, HC.out cc hcc]; clear hcc)
            go_wp2_with fail
            go_roundg (n - k)
            case measure => exact hg
            case rel => exact ⟨k + 1, by rw [KY.out], by rw [← TS.out], by go_num, by omega, by omega, L2, MA.out _, BA.out _⟩
end Go.Proofs.Ytbmkamnjjfmdiaa
