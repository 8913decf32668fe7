/- What Levels returns for a text of simple classes without brackets that is not empty. -/
import Derived.Test.YtdkmjhbkjhikfaaBdS
import Derived.Test.YtdkmjhbkjhikfaaBdSq
import Derived.Test.YtdkmjhbkjhikfaaBdNq
namespace Go.Proofs.Ytdkmjhbkjhikfaa
open Go.RowKit Go.Sort
set_option linter.unusedVariables false
set_option linter.unusedSimpArgs false

/-- What is said of the levels f of a text with the classes g. -/
def LevP (n : Nat) (base : Int) (g f : Nat → Int) : Prop := ∃ c : Nat → Int, (∀ j, j < n → (g j = 0 → c j = 0) ∧ (g j = 1 → c j = 1) ∧ (g j = 3 → c j = 3 ∨ c j = 0) ∧ (c j = 0 ∨ c j = 1 ∨ c j = 3) ∧ ((∀ i, i < n → g i ≠ 1) ∧ base = 0 → c j = 0)) ∧
  ∀ j, j < n → f j = lvl base (c j) ∨ (g j = 12 ∧ f j = base)

set_option maxRecDepth 100000 in
set_option maxHeartbeats 8000000 in
theorem levels_any (tb off ct n : Nat) (bs base : Int) (tx : Nat → Int) (w : World) (ht : ∀ k, k < n → w.cell? ⟨tb, off + k, none⟩ = some (.int .i32 (tx k))) (htb : tb < w.heap.size) (hw : ∀ k, k < n → -2147483648 ≤ tx k ∧ tx k ≤ 2147483647) (hn : n ≤ 2000) (hp : 0 < n)
    (hb : base = 0 ∨ base = 1) (hs : ∀ k, k < n → Sm (clD tx k)) (hx : ∀ k, k < n → clD tx k = 7 → brS (tx k) = (0, 0))
    (KB : ∀ W, Grew w W → Calls Try.prog 32 #[.slice (some ⟨tb, off, none⟩) n ct, .int .i64 bs] W fun e w' => e = .returned (.int .i64 base) ∧ Grew W w') :
    Calls Try.prog 9 #[.slice (some ⟨tb, off, none⟩) n ct, .int .i64 bs] w fun e w' => ∃ lb f, e = .returned (.slice (some ⟨lb, 0, none⟩) n n) ∧ Grew w w' ∧ w.heap.size ≤ lb ∧ IRow w' lb n f ∧ LevP n base (clD tx) f := by
  have K1 := hide (newParagraph_any tb off ct n bs base tx w ht htb hw (by omega) KB)
  have HT := hide ht
  have HTB := hide htb
  have HW := hide hw
  have HB := hide hb
  have HS := hide hs
  have HX := hide hx
  have hnz : ¬ (2000 : Int) < (n : Int) := by omega
  clear ht htb hw hb hs hx KB
  go_enter Try.func9, Try.ntmps9
  go_wp2_with fail
  refine K1.out.mono ?_
  rintro e w1 ⟨pb, gb, cb, lb, rfl, G1, hpb, hlb, P1⟩
  have G1' := hide G1
  have P1' := hide P1
  have K2 := hide (embed_any pb gb cb lb n _ base (clD tx) (clD tx) (fun _ => 0) w1 P1 HS.out (by omega))
  have HPB := hide hpb
  have HLB := hide hlb
  clear G1 P1 K1 hpb hlb
  go_wp2_with fail
  refine K2.out.mono ?_
  rintro e w2 ⟨rfl, B2, R2⟩
  have P2 := hide (P1'.out.but B2 R2)
  have G2 := hide (B2.grew G1'.out HLB.out)
  have K3 := hide (sequences_any pb gb cb lb n tb off ct base (clD tx) tx w2 P2.out HB.out HS.out (fun k hk => (G2.out.1.cell (p := ⟨tb, off + k, none⟩) HTB.out).trans (HT.out k hk)) (by have := HTB.out; have := G2.out.size; omega) (by omega) hp)
  clear B2 R2 P1' G1' K2
  go_wp2_with fail
  refine K3.out.mono ?_
  rintro e w3 ⟨fb, fc, sb, V, rfl, G3, hfc, fcell, w0, hsb, hw0, E3⟩
  obtain ⟨rb, cr, tb', ct', gb', cg, cb', cc, e0, e1, e2, e3, r0, r1, r2, r3, ⟨b0, b1, b2, b3⟩, n1, n2, n3⟩ := E3.parts hp
  have hsw := E3.lt
  have BK := E3.blk
  rw [e0, e1, e2, e3] at BK
  have SQ : Hid (SeqAt w3 sb cb' cc gb' cg n (.slice (some ⟨rb, 0, none⟩) n cr) (.slice (some ⟨tb', 0, none⟩) n ct') base base base (clD tx) (clD tx)) := ⟨BK, r3, r2, by omega, n3⟩
  have G3' := hide (G2.out.trans G3)
  have P3 := hide (P2.out.grew G3)
  have x1 := P2.out.blk.lt
  have x2 := P2.out.giv.lt
  have x3 := P2.out.cls.lt
  have x4 := P2.out.lev.lt
  have NE : Hid ((pb ≠ cb' ∧ gb ≠ cb' ∧ cb ≠ cb' ∧ lb ≠ cb') ∧ sb ≠ lb ∧ cb' ≠ lb ∧ gb' ≠ lb ∧ rb ≠ lb ∧ rb ≠ cb' ∧ w.heap.size ≤ cb') := by
    have := G2.out.size
    refine ⟨⟨?_, ?_, ?_, ?_⟩, ?_, ?_, ?_, ?_, n1, ?_⟩ <;> omega
  have K4 := hide (resolve_any sb cb' cc gb' cg n tb' ct' _ base base base (clD tx) tx w3 SQ.out HS.out (by omega) HB.out r1 n2 HX.out HW.out)
  have RB := hide r0
  clear E3 e0 e1 e2 e3 r0 r1 r2 r3 b0 b1 b2 b3 n1 n2 n3 BK G3 P2 G2 K3 x1 x2 x3 x4 hsb hw0 hsw
  go_wp2
  refine wp_loop_rounds 2 ?_
  rw [rounds_succ]
  go_wp2_with fail
  refine K4.out.mono ?_
  rintro e w4 ⟨rfl, f4, S4, Q4⟩
  have SQ4 := hide (SQ.out.but S4.but S4.row)
  have P4 := hide (P3.out.away S4.but NE.out.1.1 NE.out.1.2.1 NE.out.1.2.2.1 NE.out.1.2.2.2)
  have G4 := hide (S4.but.grew G3'.out NE.out.2.2.2.2.2.2)
  have Q4' := hide Q4
  have K5 := hide (raise_any pb gb cb lb sb cb' cc gb' cg n rb cr _ _ base base base base (clD tx) f4 (clD tx) (clD tx) (fun _ => base) w4 P4.out SQ4.out (S4.but.crow RB.out NE.out.2.2.2.2.2.1) HB.out (fun i hi => (Q4 i hi).2.2.2.2.1 hi) (by omega) NE.out.2.1 NE.out.2.2.1 NE.out.2.2.2.1 NE.out.2.2.2.2.1)
  clear S4 Q4 SQ P3 G3' K4 RB fcell
  go_wp2_with fail
  refine K5.out.mono ?_
  rintro e w5 ⟨rfl, B5, R5⟩
  have P5 := hide (P4.out.but B5 R5)
  have G5 := hide (B5.grew G4.out HLB.out)
  have K6 := hide (levelRemoved_any pb gb cb lb n _ base (clD tx) (clD tx) _ w5 P5.out HS.out (by omega))
  have K7 := hide (levelSeparators_any pb gb cb lb n _ base (clD tx) (clD tx) _ w5 P5.out HS.out (by omega))
  clear B5 R5 P4 G4 SQ4 K5
  go_wp2
  rw [rounds_succ]
  go_wp2_with fail
  refine K6.out.mono ?_
  rintro e w' ⟨rfl, rfl⟩
  clear K6
  go_wp2_with fail
  refine K7.out.mono ?_
  rintro e w6 ⟨rfl, f6, B6, R6, T6⟩
  have P6 := hide (P5.out.but B6 R6)
  have G6 := hide (B6.grew G5.out HLB.out)
  have p4 := P6.out.blk.cell 4 rfl
  have T6' := hide T6
  clear B6 R6 P5 G5 K7 T6
  go_wp2
  go_ret
  refine ⟨lb, f6, rfl, G6.out, HLB.out, P6.out.lev, f4, fun j hj => ?_, fun j hj => T6'.out j hj⟩
  obtain ⟨h1, h2, h3, h4, h5, h6⟩ := Q4'.out j hj
  refine ⟨h1, h2, h3, h5 hj, fun q => ?_⟩
  have := h6 ⟨q.1, q.2, by rw [q.2]; rfl⟩
  have := h5 hj
  omega
end Go.Proofs.Ytdkmjhbkjhikfaa
