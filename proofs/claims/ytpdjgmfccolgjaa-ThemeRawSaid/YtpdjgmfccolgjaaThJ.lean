/- The law ThemeRaw at a theme, a mode and a name: it returns true. -/
import Derived.Test.YtpdjgmfccolgjaaThH
import Derived.Test.YtpdjgmfccolgjaaThI
import Derived.Test.YtpdjgmfccolgjaaThE
import Derived.Test.YtpdjgmfccolgjaaApp
namespace Go.Proofs.Ytpdjgmfccolgjaa
open Go.RowKit Go.Sort
set_option linter.unusedVariables false
set_option linter.unusedSimpArgs false

theorem info_str : (Try.prog.info? 9).map (fun i => (i.zero, i.size, i.bytes)) = some (some (.string ⟨#[]⟩), 1, 16) := by kernel_rfl
theorem info_parts1 {i : Option TypeInfo} {z : Value} {n m : Nat} (h : i.map (fun i => (i.zero, i.size, i.bytes)) = some (some z, n, m)) : ∃ j, i = some j ∧ j.zero = some z ∧ j.size = n ∧ j.bytes = m := by
  cases i with
  | none => simp at h
  | some j => simp at h; exact ⟨j, rfl, h.1, h.2.1, h.2.2⟩
/-- Strings in a row. -/
def strs (n : Nat) (f : Nat → ByteArray) : List Value := (List.range n).map fun i => .string (f i)
theorem strs_len (n : Nat) (f : Nat → ByteArray) : (strs n f).length = n := by simp [strs]
theorem strs_succ (n : Nat) (f : Nat → ByteArray) : strs (n + 1) f = strs n f ++ [.string (f n)] := by simp [strs, List.range_succ]
theorem strs_get {n : Nat} (f : Nat → ByteArray) {k : Nat} (hk : k < n) : (strs n f)[k]? = some (.string (f k)) := by simp [strs, hk]
def nmF (nm : ByteArray) (x : Nat → Tk) (j : Nat) : ByteArray := match j with
  | 0 => nm
  | j + 1 => (x j).nm
/-- A row of strings of the call's own. -/
def NR (w : World) (v : Value) (m : Nat) (f : Nat → ByteArray) : Prop := ∃ g cap, v = .slice (some ⟨g, 0, none⟩) m cap ∧ g < w.heap.size ∧ ∀ j, j < m → w.cell? ⟨g, j, none⟩ = some (.string (f j))
theorem NR.of_own {w : World} {base : Nat} {v : Value} {m : Nat} {f : Nat → ByteArray} (h : w.ownsRow base 9 1 v m (strs m f)) (hm : 0 < m) : NR w v m f := by
  rcases h.2 with ⟨rfl, h0⟩ | ⟨g, cap, cur, rfl, hb, hg, hc, hm', hs, ht⟩
  · omega
  · refine ⟨g, cap, rfl, (Array.getElem?_eq_some_iff.1 hg).1, fun k hk => ?_⟩
    have := strs_get f hk
    rw [← ht, List.getElem?_take, if_pos (by omega)] at this
    rw [cell_of_row w g k cur _ (0, 0) hg]
    simpa using this

set_option maxHeartbeats 16000000 in
theorem raw_core (p : Option Addr) (n c : Nat) (x : Nat → Tk) (dk hi : Bool) (sc : Int) (nm : ByteArray) (w : World) (H : SRow w p n 5 (tkC x)) (hn : n ≤ 9223372036854775807) (hs : ∀ k, k < n → (x k).nm.size ≤ 9223372036854775807) :
    Calls Try.prog 3 #[.agg #[.slice p n c], mdV dk hi sc, .string nm] w fun e w' => e = .returned (.bool true) ∧ Below w.heap.size w w' := by
  have HA := hide H
  have HS := hide hs
  obtain ⟨b0, hb0⟩ : ∃ b0, b0 = w.heap.size := ⟨_, rfl⟩
  clear H hs
  by_cases h120 : 120 < n
  · have h120z : (120 : Int) < (n : Int) := by omega
    go_enter Try.func3, Try.ntmps3
    go_wp2
    go_ret
    exact ⟨rfl, (((Grew.refl w).alloc _).alloc _).below⟩
  have h120z : ¬ (120 : Int) < (n : Int) := by omega
  have hn2 : n ≤ 120 := by omega
  obtain ⟨ib, hib, hz0, hz1, hz2⟩ := info_parts1 info_str
  go_enter Try.func3, Try.ntmps3
  go_wp2
  have GA : Hid (Grew w ((w.alloc (.cells #[.slice p n c] 24)).alloc (.cells #[.bool dk, .bool hi, .int .i64 sc] 26))) := ((Grew.refl w).alloc _).alloc _
  have BT0 : Hid (Blk ((w.alloc (.cells #[.slice p n c] 24)).alloc (.cells #[.bool dk, .bool hi, .int .i64 sc] 26)) b0 24 [.slice p n c]) := (Blk.new hb0).alloc _
  have BM0 : Hid (Blk ((w.alloc (.cells #[.slice p n c] 24)).alloc (.cells #[.bool dk, .bool hi, .int .i64 sc] 26)) (b0 + 1) 26 [.bool dk, .bool hi, .int .i64 sc]) := Blk.new (by simp [hb0])
  have hz : Hid (((w.alloc (.cells #[.slice p n c] 24)).alloc (.cells #[.bool dk, .bool hi, .int .i64 sc] 26)).heap.size = b0 + 2) := by show _ = _; simp [hb0]
  rw [← hb0]
  clear hb0
  generalize ((w.alloc (.cells #[.slice p n c] 24)).alloc (.cells #[.bool dk, .bool hi, .int .i64 sc] 26)) = w2 at *
  have OW : Hid ((w2.alloc (.cells #[.string nm] 9)).ownsRow (b0 + 2) 9 1 (.slice (some ⟨b0 + 2, 0, none⟩) 1 1) 1 (strs 1 (nmF nm x))) := ⟨rfl, Or.inr ⟨b0 + 2, 1, #[.string nm], rfl, Nat.le_refl _, by
    have := heap_alloc_new w2 (.cells #[.string nm] 9)
    rwa [hz.out] at this, Nat.le_refl _, by unfold maxLen; omega, rfl, rfl⟩⟩
  have GB : Hid (Grew w2 (w2.alloc (.cells #[.string nm] 9))) := (Grew.refl w2).alloc _
  generalize (w2.alloc (.cells #[.string nm] 9)) = w3 at *
  go_loopg [7, 8] (n + 1) (fun gh v7 vk wr => ∃ (k : Nat) (v : Value), vk = .int .i64 (k : Int) ∧ v = v7 ∧ k ≤ n ∧ k ≤ 10 ∧ n - k < gh ∧ Hid (Grew w2 wr) ∧ Hid (wr.ownsRow (b0 + 2) 9 1 v (k + 1) (strs (k + 1) (nmF nm x))))
  case atStart => exact ⟨0, _, by go_num, rfl, by omega, by omega, by omega, GB, OW⟩
  case round =>
    clear GB OW
    obtain ⟨wo, rfl⟩ : ∃ wo : World, wo = wr := ⟨_, rfl⟩
    obtain ⟨k, v, rfl, rfl, hk, hk10, hg, G, OR⟩ := hrel
    have t0 := (BT0.out.grew G.out).cell 0 rfl
    by_cases hlt : k < n
    · have hltz : (k : Int) < (n : Int) := by omega
      by_cases hlt10 : k < 10
      · have hlt10z : (k : Int) < 10 := by omega
        obtain ⟨b, off, rfl, hb, hc⟩ := (HA.out.grew (GA.out.trans G.out)) (by omega)
        have c0 : wo.cell? ⟨b, off + k * 5, none⟩ = some (.string (x k).nm) := hc k hlt 0 (by decide)
        have hsz : Hid (b0 + 2 ≤ wo.heap.size) := by have := G.out.size; rw [hz.out] at this; exact this
        have NX : Hid (∀ v' w1, w1.ownsRow (b0 + 2) 9 1 v' (k + 1 + 1) (strs (k + 1) (nmF nm x) ++ [.string (x k).nm]) → (wo.alloc (.cells #[.string (x k).nm] 9)).grownBy w1 v.ownBlock → (wo.alloc (.cells #[.string (x k).nm] 9)).drawn ≤ w1.drawn → Hid (Grew w2 w1) ∧ Hid (w1.ownsRow (b0 + 2) 9 1 v' (k + 1 + 1) (strs (k + 1 + 1) (nmF nm x)))) := fun v' w1 h1 h2 h3 =>
          ⟨(G.out.alloc _).appended h2 h3 (by rw [hz.out]; exact own_lt OR.out), by rw [strs_succ (k + 1)]; exact h1⟩
        clear hc hb
        generalize (x k).nm = s at *
        go_wp2_with (at_builtin; refine wpList_append_drawn2 _ rfl _ _ 27 rfl (b0 + 2) 9 ib (.string ⟨#[]⟩) 1 16 Try.underlying27 hib hz0 hz1 hz2 rfl (by decide) _ _ _ rfl (World.ownsRow.alloc OR.out _) ⟨wo.heap.size, 0, none⟩ 1 1 [.string s] rfl (by decide) rfl ?c1 ?c2 ?c3 ?c4 ?c5 ?_)
        case c1 =>
          intro j u hj
          match j, hj with
          | 0, hj => simp at hj; subst hj; simp [Addr.add]
        case c2 => intro u hu; simp at hu; subst hu; rfl
        case c3 => unfold maxLen; omega
        case c4 => omega
        case c5 => have := hsz.out; simp; omega
        · intro v' w1 h1 h2 h3 _
          have N2 := hide (NX.out v' w1 h1 h2 h3)
          clear h1 h2 h3 NX OR t0 c0
          go_wp2
          go_roundg (n - k)
          case measure => omega
          case rel => exact ⟨k + 1, v', by go_num, rfl, by omega, by omega, by omega, N2.out.1, N2.out.2⟩
      · have hlt10z : ¬ (k : Int) < 10 := by omega
        obtain ⟨g, cap, rfl, hgw, hcell⟩ := NR.of_own OR.out (by omega)
        have HC := hide hcell
        clear hcell OR
        go_wp2
        go_loopg [9] (k + 2) (fun gh vj wr => ∃ (j : Nat), vj = .int .i64 (j : Int) ∧ j ≤ k + 1 ∧ k + 1 - j < gh ∧ Hid (Grew wo wr))
        case atStart => exact ⟨0, by go_num, by omega, by omega, Grew.refl _⟩
        case round =>
          obtain ⟨wi, rfl⟩ : ∃ wi : World, wi = wr := ⟨_, rfl⟩
          obtain ⟨j, rfl, hj, hgj, GI⟩ := hrel
          have GW := hide (G.out.trans GI.out)
          have BT := hide (BT0.out.grew GW.out)
          have BM := hide (BM0.out.grew GW.out)
          have t0 := BT.out.cell 0 rfl
          have gt0 := fun m os => (Blk.grow BT.out m os).cell 0 rfl
          have gm0 := fun m os => (Blk.grow BM.out m os).cell 0 rfl
          have gm1 := fun m os => (Blk.grow BM.out m os).cell 1 rfl
          have gm2 := fun m os => (Blk.grow BM.out m os).cell 2 rfl
          by_cases hjk : j < k + 1
          · have hjkz : (j : Int) < (k : Int) + 1 := by omega
            have hj0 : (0 : Int) ≤ (j : Int) := by omega
            have gn0 : ∀ m os, (grow (wi.drewN m) os).cell? ⟨g, j, none⟩ = some (.string (nmF nm x j)) := fun m os => ((((GI.out.drewN m).grow os)).1.cell (p := ⟨g, j, none⟩) hgw).trans (HC.out j hjk)
            have GE : Hid (∀ W, Grew wi W → Grew w W) := fun W h => (GA.out.trans GW.out).trans h
            have HE : Hid (∀ W, Grew wi W → W.cell? ⟨g, j, none⟩ = some (.string (nmF nm x j))) := fun W h => ((GI.out.trans h).1.cell (p := ⟨g, j, none⟩) hgw).trans (HC.out j hjk)
            generalize nmF nm x j = s at *
            have K1 := fun W (h : Grew wi W) => hide (Lookup_any p n c x dk hi sc s W (HA.out.grew (GE.out W h)) (by omega))
            have K2 := fun W (h : Grew wi W) => hide (rLookup_any p n c x dk hi sc s W (HA.out.grew (GE.out W h)) (by omega))
            generalize lookF x dk hi s 0 n = L at *
            obtain ⟨L1, L2⟩ := L
            have K1' := fun m os => hide (K1 (grow (wi.drewN m) os) (((Grew.refl wi).drewN m).grow os)).out
            clear K1
            dsimp only [mdV] at *
            go_wp2
            refine wp_region_calm (by kernel_rfl) (by kernel_rfl) ?_
            repeat (first | (refine lex_skip rfl (by rfl) ?_) | (refine lex_calm rfl (by rfl) (fun K hK => ?_); go_simp; first | (refine hK _ ?_; clear hK K) | (apply Exists.intro; refine ⟨fun _ _ => ?_, hK _ ?_⟩; (with_reducible exact (K1' _ _).out); clear hK K)))
            refine lex_nil ?_
            intro w4 G4
            clear BT BM t0 gt0 gm0 gm1 gm2 gn0 K1'
            have GW4 := hide (GW.out.trans G4)
            have BT := hide (BT0.out.grew GW4.out)
            have BM := hide (BM0.out.grew GW4.out)
            have t0 := BT.out.cell 0 rfl
            have gt0 := fun m os => (Blk.grow BT.out m os).cell 0 rfl
            have gm0 := fun m os => (Blk.grow BM.out m os).cell 0 rfl
            have gm1 := fun m os => (Blk.grow BM.out m os).cell 1 rfl
            have gm2 := fun m os => (Blk.grow BM.out m os).cell 2 rfl
            have gn0 : ∀ m os, (grow (w4.drewN m) os).cell? ⟨g, j, none⟩ = some (.string s) := fun m os => HE.out _ ((G4.drewN m).grow os)
            have K2' := fun m os => hide (K2 (grow (w4.drewN m) os) ((G4.drewN m).grow os)).out
            have HG4 := hide G4
            clear K2 G4
            go_wp2
            refine wp_region_calm (by kernel_rfl) (by kernel_rfl) ?_
            repeat (first | (refine lex_skip rfl (by rfl) ?_) | (refine lex_calm rfl (by rfl) (fun K hK => ?_); go_simp; first | (refine hK _ ?_; clear hK K) | (apply Exists.intro; refine ⟨fun _ _ => ?_, hK _ ?_⟩; (with_reducible exact (K2' _ _).out); clear hK K)))
            refine lex_nil ?_
            intro w5 G5
            clear BT BM t0 gt0 gm0 gm1 gm2 gn0 K2'
            have G6 := hide ((GI.out.trans HG4.out).trans G5)
            clear G5
            go_wp2
            go_roundg (k + 1 - j)
            case measure => omega
            case rel => exact ⟨j + 1, by go_num, by omega, by omega, G6⟩
          · have hjkz : ¬ (j : Int) < (k : Int) + 1 := by omega
            have GE : Hid (∀ W, Grew wi W → Grew w W) := fun W h => (GA.out.trans GW.out).trans h
            have K1 := fun W (h : Grew wi W) => hide (Validate_any p n c x W (HA.out.grew (GE.out W h)) hn2 HS.out)
            have K2 := fun W (h : Grew wi W) => hide (rValidate_any p n c x W (HA.out.grew (GE.out W h)) hn2 HS.out)
            have K3 := fun W => hide (awake_any W)
            generalize vldF x n = vv at *
            have K1' := fun m os => hide (K1 (grow (wi.drewN m) os) (((Grew.refl wi).drewN m).grow os)).out
            have K2' := fun m os => hide (K2 (grow (wi.drewN m) os) (((Grew.refl wi).drewN m).grow os)).out
            clear K1 K2
            dsimp only [mdV] at *
            go_wp2
            refine wp_region_calm (by kernel_rfl) (by kernel_rfl) ?_
            repeat (first | (refine lex_skip rfl (by rfl) ?_) | (refine lex_calm rfl (by rfl) (fun K hK => ?_); go_simp; first | (refine hK _ ?_; clear hK K) | (apply Exists.intro; refine ⟨fun _ _ => ?_, hK _ ?_⟩; (first | (with_reducible exact (K1' _ _).out) | (with_reducible exact (K2' _ _).out) | (with_reducible exact (K3 _).out)); clear hK K)))
            refine lex_nil ?_
            intro w4 G4
            have G5 := hide (GE.out _ G4)
            clear G4 K1' K2' K3
            go_wp2
            go_ret
            exact ⟨rfl, G5.out.below⟩
    · have hltz : ¬ (k : Int) < (n : Int) := by omega
      obtain ⟨g, cap, rfl, hgw, hcell⟩ := NR.of_own OR.out (by omega)
      have HC := hide hcell
      clear hcell OR
      go_wp2
      go_loopg [9] (k + 2) (fun gh vj wr => ∃ (j : Nat), vj = .int .i64 (j : Int) ∧ j ≤ k + 1 ∧ k + 1 - j < gh ∧ Hid (Grew wo wr))
      case atStart => exact ⟨0, by go_num, by omega, by omega, Grew.refl _⟩
      case round =>
        obtain ⟨wi, rfl⟩ : ∃ wi : World, wi = wr := ⟨_, rfl⟩
        obtain ⟨j, rfl, hj, hgj, GI⟩ := hrel
        have GW := hide (G.out.trans GI.out)
        have BT := hide (BT0.out.grew GW.out)
        have BM := hide (BM0.out.grew GW.out)
        have t0 := BT.out.cell 0 rfl
        have gt0 := fun m os => (Blk.grow BT.out m os).cell 0 rfl
        have gm0 := fun m os => (Blk.grow BM.out m os).cell 0 rfl
        have gm1 := fun m os => (Blk.grow BM.out m os).cell 1 rfl
        have gm2 := fun m os => (Blk.grow BM.out m os).cell 2 rfl
        by_cases hjk : j < k + 1
        · have hjkz : (j : Int) < (k : Int) + 1 := by omega
          have hj0 : (0 : Int) ≤ (j : Int) := by omega
          have gn0 : ∀ m os, (grow (wi.drewN m) os).cell? ⟨g, j, none⟩ = some (.string (nmF nm x j)) := fun m os => ((((GI.out.drewN m).grow os)).1.cell (p := ⟨g, j, none⟩) hgw).trans (HC.out j hjk)
          have GE : Hid (∀ W, Grew wi W → Grew w W) := fun W h => (GA.out.trans GW.out).trans h
          have HE : Hid (∀ W, Grew wi W → W.cell? ⟨g, j, none⟩ = some (.string (nmF nm x j))) := fun W h => ((GI.out.trans h).1.cell (p := ⟨g, j, none⟩) hgw).trans (HC.out j hjk)
          generalize nmF nm x j = s at *
          have K1 := fun W (h : Grew wi W) => hide (Lookup_any p n c x dk hi sc s W (HA.out.grew (GE.out W h)) (by omega))
          have K2 := fun W (h : Grew wi W) => hide (rLookup_any p n c x dk hi sc s W (HA.out.grew (GE.out W h)) (by omega))
          generalize lookF x dk hi s 0 n = L at *
          obtain ⟨L1, L2⟩ := L
          have K1' := fun m os => hide (K1 (grow (wi.drewN m) os) (((Grew.refl wi).drewN m).grow os)).out
          clear K1
          dsimp only [mdV] at *
          go_wp2
          refine wp_region_calm (by kernel_rfl) (by kernel_rfl) ?_
          repeat (first | (refine lex_skip rfl (by rfl) ?_) | (refine lex_calm rfl (by rfl) (fun K hK => ?_); go_simp; first | (refine hK _ ?_; clear hK K) | (apply Exists.intro; refine ⟨fun _ _ => ?_, hK _ ?_⟩; (with_reducible exact (K1' _ _).out); clear hK K)))
          refine lex_nil ?_
          intro w4 G4
          clear BT BM t0 gt0 gm0 gm1 gm2 gn0 K1'
          have GW4 := hide (GW.out.trans G4)
          have BT := hide (BT0.out.grew GW4.out)
          have BM := hide (BM0.out.grew GW4.out)
          have t0 := BT.out.cell 0 rfl
          have gt0 := fun m os => (Blk.grow BT.out m os).cell 0 rfl
          have gm0 := fun m os => (Blk.grow BM.out m os).cell 0 rfl
          have gm1 := fun m os => (Blk.grow BM.out m os).cell 1 rfl
          have gm2 := fun m os => (Blk.grow BM.out m os).cell 2 rfl
          have gn0 : ∀ m os, (grow (w4.drewN m) os).cell? ⟨g, j, none⟩ = some (.string s) := fun m os => HE.out _ ((G4.drewN m).grow os)
          have K2' := fun m os => hide (K2 (grow (w4.drewN m) os) ((G4.drewN m).grow os)).out
          have HG4 := hide G4
          clear K2 G4
          go_wp2
          refine wp_region_calm (by kernel_rfl) (by kernel_rfl) ?_
          repeat (first | (refine lex_skip rfl (by rfl) ?_) | (refine lex_calm rfl (by rfl) (fun K hK => ?_); go_simp; first | (refine hK _ ?_; clear hK K) | (apply Exists.intro; refine ⟨fun _ _ => ?_, hK _ ?_⟩; (with_reducible exact (K2' _ _).out); clear hK K)))
          refine lex_nil ?_
          intro w5 G5
          clear BT BM t0 gt0 gm0 gm1 gm2 gn0 K2'
          have G6 := hide ((GI.out.trans HG4.out).trans G5)
          clear G5
          go_wp2
          go_roundg (k + 1 - j)
          case measure => omega
          case rel => exact ⟨j + 1, by go_num, by omega, by omega, G6⟩
        · have hjkz : ¬ (j : Int) < (k : Int) + 1 := by omega
          have GE : Hid (∀ W, Grew wi W → Grew w W) := fun W h => (GA.out.trans GW.out).trans h
          have K1 := fun W (h : Grew wi W) => hide (Validate_any p n c x W (HA.out.grew (GE.out W h)) hn2 HS.out)
          have K2 := fun W (h : Grew wi W) => hide (rValidate_any p n c x W (HA.out.grew (GE.out W h)) hn2 HS.out)
          have K3 := fun W => hide (awake_any W)
          generalize vldF x n = vv at *
          have K1' := fun m os => hide (K1 (grow (wi.drewN m) os) (((Grew.refl wi).drewN m).grow os)).out
          have K2' := fun m os => hide (K2 (grow (wi.drewN m) os) (((Grew.refl wi).drewN m).grow os)).out
          clear K1 K2
          dsimp only [mdV] at *
          go_wp2
          refine wp_region_calm (by kernel_rfl) (by kernel_rfl) ?_
          repeat (first | (refine lex_skip rfl (by rfl) ?_) | (refine lex_calm rfl (by rfl) (fun K hK => ?_); go_simp; first | (refine hK _ ?_; clear hK K) | (apply Exists.intro; refine ⟨fun _ _ => ?_, hK _ ?_⟩; (first | (with_reducible exact (K1' _ _).out) | (with_reducible exact (K2' _ _).out) | (with_reducible exact (K3 _).out)); clear hK K)))
          refine lex_nil ?_
          intro w4 G4
          have G5 := hide (GE.out _ G4)
          clear G4 K1' K2' K3
          go_wp2
          go_ret
          exact ⟨rfl, G5.out.below⟩
end Go.Proofs.Ytpdjgmfccolgjaa
