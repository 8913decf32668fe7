/- What Pinned of package scroll returns; no condition but on sizes. -/
import Derived.Test.YtbmkamnjjfmdiaaScPb
namespace Go.Proofs.Ytbmkamnjjfmdiaa
open Go.RowKit Go.Sort
set_option linter.unusedVariables false
set_option linter.unusedSimpArgs false

theorem ok_sc {n k : Nat} {l : Nat → Sct} (h : scB l n = true) (hk : k < n) : okS l k = true := by
  unfold scB at h
  rw [Bool.and_eq_true] at h
  exact alF_iff.1 h.2 k hk
set_option maxHeartbeats 8000000 in
set_option maxRecDepth 100000 in
theorem ppi_any (p : Option Addr) (n c : Nat) (l : Nat → Sct) (o : Int) (w : World) (hp : SRow w p n 3 (scC l)) : Calls Try.prog 12 #[.slice p n c, .int .i64 o] w (PiP n l o w) := by
  have G := hide (fun o => (Below.refl w.heap.size w).alloc (Nat.le_refl _) o)
  have M := hide (inr1 o w)
  cases h0 : inRB o with
  | false =>
    have e := hide (show piB n l o = false by simp [piB, h0])
    rw [h0] at M
    clear h0 hp
    go_enter Try.func12, Try.ntmps12
    go_wp2_with fail
    refine M.out.mono ?_
    rintro e w' ⟨rfl, rfl⟩
    go_wp2_with fail
    go_ret
    exact pi_no e.out (G.out _)
  | true =>
    rw [h0] at M
    have KS := hide (fun w' (hB : Below w.heap.size w w') => pvs_any p n c l w' (hp.below hB))
    cases h3 : scB l n with
    | false =>
      rw [h3] at KS
      have e := hide (show piB n l o = false by rw [pi_sc, h3, Bool.and_false])
      clear h0 h3 hp
      go_enter Try.func12, Try.ntmps12
      go_wp2_with fail
      refine M.out.mono ?_
      rintro e w' ⟨rfl, rfl⟩
      go_wp2_with fail
      refine (KS.out _ (G.out _)).mono ?_
      rintro e w' ⟨rfl, hB⟩
      have B1 := hide ((G.out _).trans (hB.mono (G.out _).size))
      clear hB
      go_wp2_with fail
      go_ret
      exact pi_no e.out B1.out
    | true =>
      rw [h3] at KS
      have HV := hide (show piB n l o = true by rw [pi_sc, h3, h0]; rfl)
      obtain ⟨o1, o2⟩ := inR_iff.1 h0
      have hn : n ≤ 10000 := by unfold scB at h3; rw [Bool.and_eq_true] at h3; exact of_decide_eq_true h3.1
      have SB : Hid (∀ i, i < n → okS l i = true) := fun i hi => ok_sc h3 hi
      have HP := hide hp
      have hmk := make_ints n (by omega)
      clear h0 h3 hp
      go_enter Try.func12, Try.ntmps12
      go_wp2_with fail
      refine M.out.mono ?_
      rintro e w' ⟨rfl, rfl⟩
      go_wp2_with fail
      refine (KS.out _ (G.out _)).mono ?_
      rintro e w1 ⟨rfl, hB⟩
      have B1 := hide ((G.out _).trans (hB.mono (G.out _).size))
      clear hB KS M G
      go_wp2_with fail
      clear hmk
      obtain ⟨pb, hpb⟩ : ∃ pb, pb = w1.heap.size := ⟨_, rfl⟩
      have hpw : Hid (w.heap.size ≤ pb) := by rw [hpb]; exact B1.out.size
      have CC : Hid (CRw (w1.alloc (.cells (ints n fun _ => 0) 3)) pb n (fun i => if i < 0 then piF l o i else 0)) := by
        rw [hpb]
        exact (CRw.of (IRow.new w1 n fun _ => 0)).congr fun i _ => by simp
      have BB := hide (B1.out.alloc B1.out.size (.cells (ints n fun _ => 0) 3))
      rw [← hpb]
      clear hpb B1
      generalize (w1.alloc (.cells (ints n fun _ => 0) 3)) = w2 at *
      go_loopg [22] (n + 1) (fun g1 vk wr => ∃ k : Nat, vk = .int .i64 (k : Int) ∧ k ≤ n ∧ n - k < g1 ∧ Hid (CRw wr pb n (fun i => if i < k then piF l o i else 0)) ∧ Hid (Below w.heap.size w wr))
      case atStart => exact ⟨0, by go_num, by omega, by omega, CC, BB⟩
      case round =>
        clear CC BB
        obtain ⟨wo, rfl⟩ : ∃ wo : World, wo = wr := ⟨_, rfl⟩
        obtain ⟨k, rfl, hk, hg, CC, BB⟩ := hrel
        have hk0 : (0 : Int) ≤ (k : Int) := by omega
        by_cases hlt : k < n
        case neg =>
          have hltz : ¬ (k : Int) < (n : Int) := by omega
          obtain rfl : n = k := by omega
          have FN : Hid (PiP n l o w (.returned (.slice (some ⟨pb, 0, none⟩) n n)) wo) := ⟨fun h => by rw [HV.out] at h; exact Bool.noConfusion h, fun _ => ⟨_, n, rfl, (CC.out.congr fun i hi => if_pos hi).reads⟩, BB.out⟩
          clear CC BB HV HP SB
          go_wp2_with fail
          go_ret
          exact FN.out
        have hltz : (k : Int) < (n : Int) := by omega
        obtain ⟨b, off, rfl, hb, hc⟩ := (HP.out.below BB.out) (by omega)
        have c0 : wo.cell? ⟨b, off + k * 3, none⟩ = some (.int .i64 (l k).tp) := hc k hlt 0 (by decide)
        have c1 : wo.cell? ⟨b, off + k * 3 + 1, none⟩ = some (.int .i64 (l k).ht) := hc k hlt 1 (by decide)
        have c2 : wo.cell? ⟨b, off + k * 3 + 2, none⟩ = some (.int .i64 (l k).hd) := hc k hlt 2 (by decide)
        have ok := SB.out k hlt
        unfold okS at ok
        simp only [Bool.and_eq_true] at ok
        obtain ⟨⟨k1, k2⟩, k3⟩ := ok
        obtain ⟨x1, x2⟩ := inR_iff.1 k1
        obtain ⟨y1, y2⟩ := szR_iff.1 k2
        obtain ⟨z1, z2⟩ := szR_iff.1 k3
        have EP : Hid (max (l k).tp (min o ((l k).tp + (l k).ht - (l k).hd)) = piF l o k) := rfl
        clear hc hb k1 k2 k3
        generalize (l k).tp = x at *
        generalize (l k).ht = y at *
        generalize (l k).hd = z at *
        have wa : IntKind.i64.wrap (x + y) = x + y := wr (by omega) (by omega)
        have ws : IntKind.i64.wrap (x + y - z) = x + y - z := wr (by omega) (by omega)
        have fz := ((CC.out.below ((Below.refl wo.heap.size wo).alloc (Nat.le_refl _) (.cells #[.int .i64 x, .int .i64 y, .int .i64 z] 43)))).frozen k
        have ck := ((CC.out.below ((Below.refl wo.heap.size wo).alloc (Nat.le_refl _) (.cells #[.int .i64 x, .int .i64 y, .int .i64 z] 43)))).cell (i := k) hlt
        have CN : Hid (CRw ((wo.alloc (.cells #[.int .i64 x, .int .i64 y, .int .i64 z] 43)).setCell ⟨pb, k, none⟩ (.int .i64 (max x (min o (x + y - z))))) pb n (fun i => if i < k + 1 then piF l o i else 0)) :=
          ((CC.out.below ((Below.refl wo.heap.size wo).alloc (Nat.le_refl _) (.cells #[.int .i64 x, .int .i64 y, .int .i64 z] 43))).set_ k (max x (min o (x + y - z)))).congr fun i hi => by
            by_cases e : i = k
            · subst e; rw [if_pos rfl, if_pos (Nat.lt_succ_self _)]; exact EP.out
            · rw [if_neg e]
              by_cases h1 : i < k
              · rw [if_pos h1, if_pos (by omega)]
              · rw [if_neg h1, if_neg (by omega)]
        have BN : Hid (Below w.heap.size w ((wo.alloc (.cells #[.int .i64 x, .int .i64 y, .int .i64 z] 43)).setCell ⟨pb, k, none⟩ (.int .i64 (max x (min o (x + y - z)))))) := (BB.out.alloc BB.out.size _).setCell (p := ⟨pb, k, none⟩) hpw.out _
        clear CC BB EP
        go_wp2_with fail
        go_roundg (n - k)
        case measure => exact hg
        case rel => exact ⟨k + 1, by go_num, by omega, by omega, CN, BN⟩
end Go.Proofs.Ytbmkamnjjfmdiaa
