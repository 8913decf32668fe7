/- What newStack, last, place, matches and embed do in a paragraph of simple classes. -/
import Derived.Test.YtdkmjhbkjhikfaaBdT
namespace Go.Proofs.Ytdkmjhbkjhikfaa
open Go.RowKit Go.Sort
set_option linter.unusedVariables false
set_option linter.unusedSimpArgs false

abbrev ent (base : Int) : Value := .agg #[.int .i64 base, .int .i64 (-1), .bool false]
theorem newStack_any (base : Int) (w : World) :
    Calls Try.prog 33 #[.int .i64 base] w fun e w' => ∃ kb eb, e = .returned (.pointer (some ⟨kb, 0, none⟩)) ∧ Grew w w' ∧ w.heap.size ≤ kb ∧ w.heap.size ≤ eb ∧
      Blk w' kb 93 [.slice (some ⟨eb, 0, none⟩) 1 1, .int .i64 0, .int .i64 0, .int .i64 0] ∧ Blk w' eb 60 [.int .i64 base, .int .i64 (-1), .bool false] := by
  go_enter Try.func33, Try.ntmps33
  go_wp2
  go_ret
  refine ⟨_, _, rfl, ((Grew.refl w).alloc _).alloc _, by simp, Nat.le_refl _, Blk.new (by simp), (Blk.new rfl).alloc _⟩
theorem last_any (kb eb : Nat) (base : Int) (x y z : Value) (w : World) (H : Blk w kb 93 [.slice (some ⟨eb, 0, none⟩) 1 1, x, y, z]) (HE : Blk w eb 60 [.int .i64 base, .int .i64 (-1), .bool false]) :
    Calls Try.prog 37 #[.pointer (some ⟨kb, 0, none⟩)] w fun e w' => e = .returned (ent base) ∧ Grew w w' := by
  obtain ⟨B, hB⟩ : ∃ B, B = w.heap.size := ⟨_, rfl⟩
  have BA : Blk (w.alloc (.cells #[.int .i64 0, .int .i64 0, .bool false] 60)) B 60 [.int .i64 0, .int .i64 0, .bool false] := Blk.new hB
  have HK := H.alloc (.cells #[.int .i64 0, .int .i64 0, .bool false] 60)
  have HF := HE.alloc (.cells #[.int .i64 0, .int .i64 0, .bool false] 60)
  have GA : Grew w (w.alloc (.cells #[.int .i64 0, .int .i64 0, .bool false] 60)) := (Grew.refl w).alloc _
  clear H HE
  go_enter Try.func37, Try.ntmps37
  go_wp2
  rw [← hB]
  have hb := hide (Nat.le_of_eq hB.symm)
  have wz : IntKind.i64.wrap 0 = 0 := wr (by omega) (by omega)
  clear hB
  generalize w.alloc (.cells #[.int .i64 0, .int .i64 0, .bool false] 60) = wA at *
  have g0 := fun m os => (upto_blk HK m os).cell 0 rfl
  have g1 := fun m os => (upto_blk HF m os).cell 0 rfl
  have g2 := fun m os => (upto_blk HF m os).cell 1 rfl
  have g3 := fun m os => (upto_blk HF m os).cell 2 rfl
  refine wp_region_stores 12 [fun W => ((W.setCell ⟨B, 0, none⟩ (.int .i64 base)).setCell ⟨B, 1, none⟩ (.int .i64 (-1))).setCell ⟨B, 2, none⟩ (.bool false)] (by kernel_rfl) rfl (by kernel_rfl) (by kernel_rfl) (by kernel_rfl) ?_
  repeat (first | (refine lex_skip rfl (by rfl) ?_) | (refine lex_calm rfl (by rfl) (fun K hK => ?_); go_simp; first | (refine hK _ ?_; clear hK K)))
  refine lex_nil ?_
  refine stores_cons rfl ?_ ?_
  · intro w1 G1
    have c0 := (BA.grew G1).cell 0 rfl
    have c1 := (BA.grew G1).cell 1 rfl
    have c2 := (BA.grew G1).cell 2 rfl
    have f0 := (BA.grew G1).free 0
    have f1 := (BA.grew G1).free 1
    have f2 := (BA.grew G1).free 2
    go_simp
  refine stores_nil ?_
  intro w1 G1
  simp only [Act.put]
  have B1 : Blk (((w1.setCell ⟨B, 0, none⟩ (.int .i64 base)).setCell ⟨B, 1, none⟩ (.int .i64 (-1))).setCell ⟨B, 2, none⟩ (.bool false)) B 60 [.int .i64 base, .int .i64 (-1), .bool false] := by
    refine Blk.set_as (vs := [.int .i64 base, .int .i64 (-1), .bool false]) ?_ 2 _ rfl
    refine Blk.set_as (vs := [.int .i64 base, .int .i64 0, .bool false]) ?_ 1 _ rfl
    exact Blk.set_as (BA.grew G1) 0 _ rfl
  have G2 : Hid (Grew w (((w1.setCell ⟨B, 0, none⟩ (.int .i64 base)).setCell ⟨B, 1, none⟩ (.int .i64 (-1))).setCell ⟨B, 2, none⟩ (.bool false))) := by
    exact (((GA.trans G1).setCell hb.out _).setCell hb.out _).setCell hb.out _
  generalize ((w1.setCell ⟨B, 0, none⟩ (.int .i64 base)).setCell ⟨B, 1, none⟩ (.int .i64 (-1))).setCell ⟨B, 2, none⟩ (.bool false) = w2 at *
  have d0 := B1.cell 0 rfl
  have d1 := B1.cell 1 rfl
  have d2 := B1.cell 2 rfl
  clear g0 g1 g2 g3 BA HK HF GA
  go_wp2
  refine bodyPost_ret (v := ent base) (by simp [results, Try.results37, go_sem, d0, d1, d2]) rfl ⟨rfl, G2.out⟩

set_option maxHeartbeats 4000000 in
theorem place_any (pb gb cb lb n k : Nat) (vt : Value) (bs base : Int) (g c l : Nat → Int) (w : World) (H : ParAt w pb gb cb lb n vt bs g c l) (hk : k < n) (hg : g k ≠ 10) :
    Calls Try.prog 36 #[.pointer (some ⟨pb, 0, none⟩), .int .i64 (k : Int), ent base] w fun e w' => e = .returned (.tuple #[]) ∧ But lb w w' ∧ IRow w' lb n (fun j => if j = k then base else l j) := by
  obtain ⟨B, hB⟩ : ∃ B, B = w.heap.size := ⟨_, rfl⟩
  have BA : Blk (w.alloc (.cells #[.int .i64 base, .int .i64 (-1), .bool false] 60)) B 60 [.int .i64 base, .int .i64 (-1), .bool false] := Blk.new hB
  have GA : Grew w (w.alloc (.cells #[.int .i64 base, .int .i64 (-1), .bool false] 60)) := (Grew.refl w).alloc _
  have HA := H.grew GA
  have hltz : (k : Int) < (n : Int) := by omega
  have h0 : (0 : Int) ≤ (k : Int) := by omega
  have hBl : B ≠ lb := by have := H.lev.lt; omega
  have hb := hide (Nat.le_of_eq hB.symm)
  clear H
  obtain ⟨x, ex⟩ : ∃ x, x = g k := ⟨_, rfl⟩
  have b2 := HA.blk.cell 2 rfl
  have gk := HA.giv.cell hk
  rw [← ex] at gk hg
  have hx : (x == 10) = false := by simp [hg]
  clear ex hg
  go_enter Try.func36, Try.ntmps36
  go_wp2
  rw [← hB]
  clear hB
  generalize w.alloc (.cells #[.int .i64 base, .int .i64 (-1), .bool false] 60) = wA at *
  have g0 := fun m os => (upto_blk HA.blk m os).cell 4 rfl
  have g1 := fun m os => (upto_blk BA m os).cell 0 rfl
  refine wp_region_stores 8 [fun W => W.setCell ⟨lb, k, none⟩ (.int .i64 base)] (by kernel_rfl) rfl (by kernel_rfl) (by kernel_rfl) (by kernel_rfl) ?_
  repeat (first | (refine lex_skip rfl (by rfl) ?_) | (refine lex_calm rfl (by rfl) (fun K hK => ?_); go_simp; first | (refine hK _ ?_; clear hK K)))
  refine lex_nil ?_
  refine stores_cons rfl ?_ ?_
  · intro w1 G1
    have c1 := (HA.lev.grew G1).cell hk
    have f1 := (HA.lev.grew G1).frozen k
    go_simp
  refine stores_nil ?_
  intro w1 G1
  simp only [Act.put]
  have NX : Hid (But lb w (w1.setCell ⟨lb, k, none⟩ (.int .i64 base)) ∧ IRow (w1.setCell ⟨lb, k, none⟩ (.int .i64 base)) lb n (fun j => if j = k then base else l j)) :=
    ⟨(But.of_grew (b := lb) (GA.trans G1)).setCell rfl _, (HA.lev.grew G1).set_ k base⟩
  have d1 := ((BA.grew G1).other hBl (j := k) (.int .i64 base)).cell 1 rfl
  clear g0 g1 BA GA HA b2 gk
  generalize w1.setCell ⟨lb, k, none⟩ (.int .i64 base) = w2 at *
  go_wp2
  go_end0
  exact ⟨rfl, NX.out⟩

set_option maxHeartbeats 4000000 in
theorem matches_any (gb n : Nat) (g : Nat → Int) (w : World) (H : IRow w gb n g) (hs : ∀ k, k < n → Sm (g k)) (hn : n ≤ 100000) :
    Calls Try.prog 34 #[.slice (some ⟨gb, 0, none⟩) n n] w fun e w' => ∃ b, e = .returned (.slice (some ⟨b, 0, none⟩) n n) ∧ Grew w w' ∧ w.heap.size ≤ b ∧ IRow w' b n (fun _ => (n : Int)) := by
  have hmk := make_ints n (by omega)
  have S0 : Hid (Grew w (w.alloc (.cells (ints n fun _ => 0) 3)) ∧ IRow (w.alloc (.cells (ints n fun _ => 0) 3)) w.heap.size n (upto 0 (fun _ => (n : Int)) (fun _ => 0))) := ⟨(Grew.refl w).alloc _, (IRow.new w n _).congr fun j _ => (if_neg (by omega)).symm⟩
  have HG := hide H
  have HS := hide hs
  clear H hs
  go_enter Try.func34, Try.ntmps34
  go_wp2
  generalize w.alloc (.cells (ints n fun _ => 0) 3) = wA at S0 ⊢
  clear hmk
  go_loopg [4, 12] (n + 1) (fun gh v4 vk wr => ∃ (k : Nat), vk = .int .i64 (k : Int) ∧ v4 = .slice none 0 0 ∧ k ≤ n ∧ n - k < gh ∧ Hid (Grew w wr ∧ IRow wr w.heap.size n (upto k (fun _ => (n : Int)) (fun _ => 0))))
  case atStart => exact ⟨0, by go_num, rfl, by omega, by omega, S0⟩
  case round =>
    clear S0
    obtain ⟨wo, rfl⟩ : ∃ wo : World, wo = wr := ⟨_, rfl⟩
    obtain ⟨k, rfl, rfl, hk, hg, S⟩ := hrel
    by_cases hlt : k < n
    · have hltz : (k : Int) < (n : Int) := by omega
      have gk := (HG.out.grew S.out.1).cell hlt
      have ck := S.out.2.cell hlt
      have fk := S.out.2.frozen k
      have sk := HS.out k hlt
      obtain ⟨x, ex⟩ : ∃ x, x = g k := ⟨_, rfl⟩
      rw [← ex] at gk sk
      have hx : (x == 22) = false := by unfold Sm at sk; simp; omega
      have NX : Hid (Grew w (wo.setCell ⟨w.heap.size, k, none⟩ (.int .i64 (n : Int))) ∧ IRow (wo.setCell ⟨w.heap.size, k, none⟩ (.int .i64 (n : Int))) w.heap.size n (upto (k + 1) (fun _ => (n : Int)) (fun _ => 0))) :=
        ⟨S.out.1.setCell (Nat.le_refl _) _, S.out.2.upto_step⟩
      have K := hide (initiates_no x (wo.setCell ⟨w.heap.size, k, none⟩ (.int .i64 (n : Int))) (Or.inl sk))
      clear S ex sk
      go_wp2_with fail
      refine K.out.mono ?_
      rintro e w' ⟨rfl, rfl⟩
      clear gk ck fk K
      go_wp2
      go_roundg (n - k)
      case measure => omega
      case rel => exact ⟨k + 1, by go_num, rfl, by omega, by omega, NX⟩
    · have hltz : ¬ (k : Int) < (n : Int) := by omega
      obtain rfl : n = k := by omega
      go_wp2
      go_ret
      exact ⟨_, rfl, S.out.1, Nat.le_refl _, S.out.2.congr fun j hj => if_pos hj⟩

set_option maxHeartbeats 4000000 in
theorem embed_any (pb gb cb lb n : Nat) (vt : Value) (base : Int) (g c l : Nat → Int) (w : World) (H : ParAt w pb gb cb lb n vt base g c l) (hs : ∀ k, k < n → Sm (g k)) (hn : n ≤ 100000) :
    Calls Try.prog 21 #[.pointer (some ⟨pb, 0, none⟩)] w fun e w' => e = .returned (.tuple #[]) ∧ But lb w w' ∧ IRow w' lb n (fun _ => base) := by
  have b1 := H.blk.cell 1 rfl
  have HH := hide H
  have HS := hide hs
  clear H hs
  go_enter Try.func21, Try.ntmps21
  go_wp2_with fail
  refine (newStack_any base w).mono ?_
  rintro e w1 ⟨kb, eb, rfl, G1, hkb, heb, SK, SE⟩
  have H1 := hide (HH.out.grew G1)
  have b2 := H1.out.blk.cell 2 rfl
  have K2 := hide (matches_any gb n g w1 H1.out.giv HS.out hn)
  have SK1 := hide SK
  have SE1 := hide SE
  have G1' := hide G1
  clear SK SE G1
  go_wp2_with fail
  refine K2.out.mono ?_
  rintro e w2 ⟨mb, rfl, G2, hmb, M⟩
  have H2 := hide (H1.out.grew G2)
  have b3 := H2.out.blk.cell 2 rfl
  have SK2 := hide (SK1.out.grew G2)
  have SE2 := hide (SE1.out.grew G2)
  have hk : kb ≠ lb := by have := HH.out.lev.lt; omega
  have he : eb ≠ lb := by have := HH.out.lev.lt; omega
  have S0 : Hid (But lb w w2 ∧ But lb w2 w2 ∧ IRow w2 lb n (upto 0 (fun _ => base) l)) := ⟨But.of_grew (G1'.out.trans G2), But.refl _ _, H2.out.lev.congr fun j _ => (if_neg (by omega)).symm⟩
  clear G2 M K2 SK1 SE1 G1' H1 b1 b2 hkb heb hmb
  go_wp2
  clear b3
  go_loopg [21] (n + 1) (fun gh vk wr => ∃ (k : Nat), vk = .int .i64 (k : Int) ∧ k ≤ n ∧ n - k < gh ∧ Hid (But lb w wr ∧ But lb w2 wr ∧ IRow wr lb n (upto k (fun _ => base) l)))
  case atStart => exact ⟨0, by go_num, by omega, by omega, S0⟩
  case round =>
    clear S0
    obtain ⟨wo, rfl⟩ : ∃ wo : World, wo = wr := ⟨_, rfl⟩
    obtain ⟨k, rfl, hk', hg, S⟩ := hrel
    by_cases hlt : k < n
    · have hltz : (k : Int) < (n : Int) := by omega
      have P := hide (H2.out.but S.out.2.1 S.out.2.2)
      have gk := P.out.giv.cell hlt
      have sk := HS.out k hlt
      have hne : g k ≠ 10 := by unfold Sm at sk; omega
      have KL := hide (last_any kb eb base (.int .i64 0) (.int .i64 0) (.int .i64 0) wo (S.out.2.1.blk SK2.out hk) (S.out.2.1.blk SE2.out he))
      have fin : Hid (∀ w3 w4, Grew wo w3 → But lb w3 w4 → IRow w4 lb n (fun j => if j = k then base else upto k (fun _ => base) l j) → But lb w w4 ∧ But lb w2 w4 ∧ IRow w4 lb n (upto (k + 1) (fun _ => base) l)) := fun w3 w4 a b r =>
        ⟨(S.out.1.trans (But.of_grew a)).trans b, (S.out.2.1.trans (But.of_grew a)).trans b, r.congr fun j hj => by
          unfold upto
          by_cases e : j = k
          · subst e; rw [if_pos rfl, if_pos (by omega)]
          · rw [if_neg e]
            by_cases q : j < k
            · rw [if_pos q, if_pos (by omega)]
            · rw [if_neg q, if_neg (by omega)]⟩
      have KP := hide (fun w3 (G : Grew wo w3) => place_any pb gb cb lb n k vt base base g c (upto k (fun _ => base) l) w3 (P.out.grew G) hlt hne)
      clear S P hne
      rcases sk with e | e | e | e | e
      all_goals
        rw [e] at gk
        clear e
        go_wp2_with fail
        refine KL.out.mono ?_
        rintro e w3 ⟨rfl, G3⟩
        have G3' := hide G3
        clear G3
        go_wp2_with fail
        refine (KP.out w3 G3'.out).mono ?_
        rintro e w4 ⟨rfl, B4, R4⟩
        have NX := hide (fin.out w3 w4 G3'.out B4 R4)
        clear B4 R4
        go_wp2
        go_roundg (n - k)
        case measure => omega
        case rel => exact ⟨k + 1, by go_num, by omega, by omega, NX⟩
    · have hltz : ¬ (k : Int) < (n : Int) := by omega
      obtain rfl : n = k := by omega
      go_wp2
      go_end0
      exact ⟨rfl, S.out.1, S.out.2.2.congr fun j hj => if_pos hj⟩
end Go.Proofs.Ytdkmjhbkjhikfaa
