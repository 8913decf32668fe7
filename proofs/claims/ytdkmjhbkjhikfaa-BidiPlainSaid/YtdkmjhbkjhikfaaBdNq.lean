/- What newParagraph makes: the paragraph with its classes, all levels 0; the text is not longer than 100000 runes and Base answers. -/
import Derived.Test.YtdkmjhbkjhikfaaBdNp
namespace Go.Proofs.Ytdkmjhbkjhikfaa
open Go.RowKit Go.Sort
set_option linter.unusedVariables false
set_option linter.unusedSimpArgs false

def clD (tx : Nat → Int) (k : Nat) : Int := (cls (tx k)).d
set_option maxRecDepth 100000 in
set_option maxHeartbeats 8000000 in
theorem newParagraph_gen (p : Option Addr) (ct n : Nat) (bs base : Int) (tx : Nat → Int) (w : World) (ht : 0 < n → ∃ tb off, p = some ⟨tb, off, none⟩ ∧ tb < w.heap.size ∧ ∀ k, k < n → w.cell? ⟨tb, off + k, none⟩ = some (.int .i32 (tx k))) (hw : ∀ k, k < n → -2147483648 ≤ tx k ∧ tx k ≤ 2147483647) (hn : n ≤ 100000)
    (KB : ∀ W, Grew w W → Calls Try.prog 32 #[.slice p n ct, .int .i64 bs] W fun e w' => e = .returned (.int .i64 base) ∧ Grew W w') :
    Calls Try.prog 20 #[.slice p n ct, .int .i64 bs] w fun e w' => ∃ pb gb cb lb, e = .returned (.pointer (some ⟨pb, 0, none⟩)) ∧ Grew w w' ∧ w.heap.size ≤ pb ∧ w.heap.size ≤ lb ∧ ParAt w' pb gb cb lb n (.slice p n ct) base (clD tx) (clD tx) (fun _ => 0) := by
  have hmk := fun W => make_ints n (by omega) W
  have KK := fun m os => hide (KB (Go.Sort.grow (w.drewN m) os) (grow_of w m os))
  have HT := hide ht
  have HW := hide hw
  clear ht hw KB
  go_enter Try.func20, Try.ntmps20
  go_wp2
  refine wp_region_mixed [6, 9, 12, 13, 14, 15] [(14, 6), (17, 9), (20, 12), (21, 13), (22, 14), (5, 15)] (fun D vs w' => MkM w n (.slice p n ct) base D vs w') (by kernel_rfl) (by kernel_rfl) (by simp) (fun vs => MkM.start _ _ _ _ _) (fun D D' vs vs' w' hD hM => hM.ext hD) (fun D vs w' i hM _ _ _ _ => ⟨hM.grew, fun w'' g => hM.later g⟩) ?_
  repeat (first | (refine lex_skip rfl (by rfl) ?_) | (refine lex_calm rfl (by rfl) (fun K hK => ?_); go_simp; first | (refine hK _ ?_; clear hK K) | (apply Exists.intro; refine ⟨fun _ _ => ?_, hK _ ?_⟩; (with_reducible exact (KK _ _).out); (clear hK K))))
  refine lex_made (by rfl) rfl ?_ ?_
  · intro D vs w1 hM hD hcl hwt
    have X := hide (hM.made 6 (by simp) hD)
    simp [go_sem, evS, List.lookup, hmk]
    exact X.out
  repeat (first | (refine lex_skip rfl (by rfl) ?_) | (refine lex_calm rfl (by rfl) (fun K hK => ?_); go_simp; first | (refine hK _ ?_; clear hK K)))
  refine lex_made (by rfl) rfl ?_ ?_
  · intro D vs w1 hM hD hcl hwt
    have X := hide (hM.made 9 (by simp) hD)
    simp [go_sem, evS, List.lookup, hmk]
    exact X.out
  repeat (first | (refine lex_skip rfl (by rfl) ?_) | (refine lex_calm rfl (by rfl) (fun K hK => ?_); go_simp; first | (refine hK _ ?_; clear hK K)))
  refine lex_made (by rfl) rfl ?_ ?_
  · intro D vs w1 hM hD hcl hwt
    have X := hide (hM.made 12 (by simp) hD)
    simp [go_sem, evS, List.lookup, hmk]
    exact X.out
  refine lex_made (by rfl) rfl ?_ ?_
  · intro D vs w1 hM hD hcl hwt
    have X := hM.build hD (hwt 6 (by kernel_rfl)) (hwt 9 (by kernel_rfl)) (hwt 12 (by kernel_rfl))
    obtain ⟨b6, e6, _⟩ := hM.row 6 (by simp) (hwt 6 (by kernel_rfl))
    obtain ⟨b9, e9, _⟩ := hM.row 9 (by simp) (hwt 9 (by kernel_rfl))
    obtain ⟨b12, e12, _⟩ := hM.row 12 (by simp) (hwt 12 (by kernel_rfl))
    rw [e6, e9, e12] at X
    replace X := hide X
    simp [go_sem, evS, List.lookup, e6, e9, e12]
    exact X.out
  refine lex_made (by rfl) rfl ?_ ?_
  · intro D vs w1 hM hD hcl hwt
    have h13 := hwt 13 (by kernel_rfl)
    have X := hM.boxed hD h13
    have e13 := hM.built h13
    obtain ⟨d6, d9, d12⟩ := hM.c1 h13
    obtain ⟨b6, e6, _⟩ := hM.row 6 (by simp) d6
    obtain ⟨b9, e9, _⟩ := hM.row 9 (by simp) d9
    obtain ⟨b12, e12, _⟩ := hM.row 12 (by simp) d12
    rw [e6, e9, e12] at X e13
    replace X := hide X
    simp [go_sem, evS, List.lookup, e13]
    exact X.out
  refine lex_made (by rfl) rfl ?_ ?_
  · intro D vs w1 hM hD hcl hwt
    have X := hide (hM.outed hD (hwt 14 (by kernel_rfl)))
    simp [go_sem, evS, List.lookup]
    exact X.out
  refine lex_nil ?_
  intro vs w1 hM
  obtain ⟨pb, gb, cb, lb, e15, G1, ⟨hpb, hgb, hcb, hlb⟩, P⟩ := hM.done
  clear hM hmk KK
  simp only [fillS, List.foldl_cons, List.foldl_nil, e15, Act.put]
  have G1 := hide G1
  have P := hide P
  go_wp2
  have S0 : Hid (But gb w1 w1 ∧ IRow w1 gb n (upto 0 (clD tx) (fun _ => 0))) := ⟨But.refl _ _, P.out.giv.congr fun j _ => (if_neg (by omega)).symm⟩
  go_loopg [25] (n + 1) (fun gh vk wr => ∃ (k : Nat), vk = .int .i64 (k : Int) ∧ k ≤ n ∧ n - k < gh ∧ Hid (But gb w1 wr ∧ IRow wr gb n (upto k (clD tx) (fun _ => 0))))
  case atStart => exact ⟨0, by go_num, by omega, by omega, S0⟩
  case round =>
    clear S0
    obtain ⟨wo, rfl⟩ : ∃ wo : World, wo = wr := ⟨_, rfl⟩
    obtain ⟨k, rfl, hk, hg, S⟩ := hrel
    by_cases hlt : k < n
    · have hltz : (k : Int) < (n : Int) := by omega
      have h0 : (0 : Int) ≤ (k : Int) := by omega
      obtain ⟨tb, off, rfl, htb, hc⟩ := HT.out (by omega)
      have tk : wo.cell? ⟨tb, off + k, none⟩ = some (.int .i32 (tx k)) :=
        (World.cell?_of_block (a := ⟨tb, off + k, none⟩) ((S.out.1.block tb (by have := G1.out.size; omega) (by omega)).trans (G1.out.1.block tb htb))).trans (hc k hlt)
      clear hc
      have PB := hide (S.out.1.blk P.out.blk P.out.n1)
      have gp := fun m os => (upto_blk PB.out m os).cell 2 rfl
      have KK := fun m os => hide (Bidi_any (tx k) (Go.Sort.grow (wo.drewN m) os) (HW.out k hlt))
      have SL := hide S.out.2
      have NX : Hid (∀ W, Grew wo W → But gb w1 (W.setCell ⟨gb, k, none⟩ (.int .i64 (cls (tx k)).d)) ∧ IRow (W.setCell ⟨gb, k, none⟩ (.int .i64 (cls (tx k)).d)) gb n (upto (k + 1) (clD tx) (fun _ => 0))) := fun W G =>
        ⟨(S.out.1.trans (But.of_grew G)).setCell rfl _, (S.out.2.grew G).upto_step⟩
      clear S
      go_wp2
      refine wp_region_stores 8 [fun W => W.setCell ⟨gb, k, none⟩ (.int .i64 (cls (tx k)).d)] (by kernel_rfl) rfl (by kernel_rfl) (by kernel_rfl) (by kernel_rfl) ?_
      repeat (first | (refine lex_skip rfl (by rfl) ?_) | (refine lex_calm rfl (by rfl) (fun K hK => ?_); go_simp; first | (refine hK _ ?_; clear hK K) | (apply Exists.intro; refine ⟨fun _ _ => ?_, hK _ ?_⟩; (with_reducible exact (KK _ _).out); (clear hK K))))
      refine lex_nil ?_
      refine stores_cons rfl ?_ ?_
      · intro w2 G2
        have c1 := (SL.out.grew G2).cell hlt
        have f1 := (SL.out.grew G2).frozen k
        go_simp
      refine stores_nil ?_
      intro w2 G2
      simp only [Act.put]
      have NX1 := hide (NX.out w2 G2)
      clear NX SL gp KK tk PB
      go_wp2
      go_roundg (n - k)
      case measure => omega
      case rel => exact ⟨k + 1, by go_num, by omega, by omega, NX1⟩
    · have hltz : ¬ (k : Int) < (n : Int) := by omega
      obtain rfl : n = k := by omega
      have PB := hide (S.out.1.blk P.out.blk P.out.n1)
      have RG : Hid (IRow wo gb n (clD tx)) := S.out.2.congr fun j hj => if_pos hj
      have RC := hide (S.out.1.irow P.out.cls P.out.n4.symm)
      have RL := hide (S.out.1.irow P.out.lev P.out.n5.symm)
      have gp2 := fun m os => (upto_blk PB.out m os).cell 2 rfl
      have gp3 := fun m os => (upto_blk PB.out m os).cell 3 rfl
      have GW := hide (S.out.1.grew G1.out hgb)
      clear S
      go_wp2
      refine wp_region_last 8 47 (fun W => W.setRow cb (ints n (clD tx))) (by kernel_rfl) (by kernel_rfl) rfl (by kernel_rfl) (by simp) ?_
      repeat (first | (refine lex_skip rfl (by rfl) ?_) | (refine lex_calm rfl (by rfl) (fun K hK => ?_); go_simp; first | (refine hK _ ?_; clear hK K)))
      refine lex_made (by rfl) rfl ?_ ?_
      · intro D vs w2 hM hD hcl hwt
        have G2 := hM.1 hD
        exact does_copy (.tmp 42) (.tmp 46) 22 22 rfl (copy_ints w2 _ cb gb n _ _ (RC.out.grew G2) (RG.out.grew G2)) ⟨fun h => by simp [upd] at h, fun _ => ⟨w2, G2, rfl⟩⟩
      refine lex_nil ?_
      intro vs wz hM
      obtain ⟨w2, G2, rfl⟩ := hM.2 rfl
      simp only [fillS, List.foldl_cons, List.foldl_nil, Act.put]
      clear hM
      have B2 : Hid (But cb w2 (w2.setRow cb (ints n (clD tx)))) := (But.refl cb w2).setRow _
      have FIN : Hid (Grew w (w2.setRow cb (ints n (clD tx))) ∧ ParAt (w2.setRow cb (ints n (clD tx))) pb gb cb lb n (.slice p n ct) base (clD tx) (clD tx) (fun _ => 0)) :=
        ⟨B2.out.grew (GW.out.trans G2) hcb, B2.out.blk (PB.out.grew G2) P.out.n2, B2.out.irow (RG.out.grew G2) P.out.n4, (RC.out.grew G2).setRow _, B2.out.irow (RL.out.grew G2) P.out.n6.symm, P.out.n1, P.out.n2, P.out.n3, P.out.n4, P.out.n5, P.out.n6⟩
      clear gp2 gp3 RG RC RL GW B2
      generalize w2.setRow cb (ints n (clD tx)) = w3 at *
      go_wp2
      go_ret
      exact ⟨pb, gb, cb, lb, rfl, FIN.out.1, hpb, hlb, FIN.out.2⟩
theorem newParagraph_any (tb off ct n : Nat) (bs base : Int) (tx : Nat → Int) (w : World) (ht : ∀ k, k < n → w.cell? ⟨tb, off + k, none⟩ = some (.int .i32 (tx k))) (htb : tb < w.heap.size) (hw : ∀ k, k < n → -2147483648 ≤ tx k ∧ tx k ≤ 2147483647) (hn : n ≤ 100000)
    (KB : ∀ W, Grew w W → Calls Try.prog 32 #[.slice (some ⟨tb, off, none⟩) n ct, .int .i64 bs] W fun e w' => e = .returned (.int .i64 base) ∧ Grew W w') :
    Calls Try.prog 20 #[.slice (some ⟨tb, off, none⟩) n ct, .int .i64 bs] w fun e w' => ∃ pb gb cb lb, e = .returned (.pointer (some ⟨pb, 0, none⟩)) ∧ Grew w w' ∧ w.heap.size ≤ pb ∧ w.heap.size ≤ lb ∧ ParAt w' pb gb cb lb n (.slice (some ⟨tb, off, none⟩) n ct) base (clD tx) (clD tx) (fun _ => 0) :=
  newParagraph_gen _ ct n bs base tx w (fun _ => ⟨tb, off, rfl, htb, ht⟩) hw hn KB
end Go.Proofs.Ytdkmjhbkjhikfaa
