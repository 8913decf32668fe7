/- What levelOf, raise, levelRemoved and levelSeparators do in a paragraph of simple classes. -/
import Derived.Test.YtdkmjhbkjhikfaaBdB
import Derived.Test.YtdkmjhbkjhikfaaMix
namespace Go.Proofs.Ytdkmjhbkjhikfaa
open Go.RowKit Go.Sort
set_option linter.unusedVariables false
set_option linter.unusedSimpArgs false

/-- The level of a rune of this class in a sequence of level 0 or 1. -/
def lvl (lev c : Int) : Int := if lev = 0 then (if c = 0 then 0 else if c = 1 then 1 else 2) else (if c = 1 then 1 else 2)
theorem levelOf_any (sb cb c gb d n : Nat) (vr vt : Value) (lev st en : Int) (g f : Nat → Int) (i : Nat) (w : World) (H : SeqAt w sb cb c gb d n vr vt lev st en g f) (hl : lev = 0 ∨ lev = 1) (hi : i < n) (hf : f i = 0 ∨ f i = 1 ∨ f i = 3) :
    Calls Try.prog 51 #[.pointer (some ⟨sb, 0, none⟩), .int .i64 (i : Int)] w fun e w' => e = .returned (.int .i64 (lvl lev (f i))) ∧ Grew w w' := by
  have b3 := H.blk.cell 3 rfl
  have b4 := H.blk.cell 4 rfl
  have ck := H.cls.cell hi
  have hltz : (i : Int) < (n : Int) := by omega
  have hln : (0 : Int) ≤ (i : Int) := by omega
  have KD := hide (direction_any lev w)
  obtain ⟨x, ex⟩ : ∃ x, x = f i := ⟨_, rfl⟩
  rw [← ex] at ck hf ⊢
  clear H ex
  rcases hl with rfl | rfl
  all_goals
    rcases hf with rfl | rfl | rfl
    all_goals
      go_enter Try.func51, Try.ntmps51
      go_wp2_with fail
      refine KD.out.mono ?_
      rintro e w' ⟨rfl, rfl⟩
      go_wp2
      go_ret
      exact ⟨rfl, Grew.refl _⟩

/-- The paragraph at block pb. -/
structure ParAt (w : World) (pb gb cb lb n : Nat) (vt : Value) (base : Int) (g c l : Nat → Int) : Prop where
  blk : Blk w pb 47 [vt, .int .i64 base, .slice (some ⟨gb, 0, none⟩) n n, .slice (some ⟨cb, 0, none⟩) n n, .slice (some ⟨lb, 0, none⟩) n n]
  giv : IRow w gb n g
  cls : IRow w cb n c
  lev : IRow w lb n l
  n1 : pb ≠ gb
  n2 : pb ≠ cb
  n3 : pb ≠ lb
  n4 : gb ≠ cb
  n5 : gb ≠ lb
  n6 : cb ≠ lb
theorem ParAt.grew {w w' : World} {pb gb cb lb n : Nat} {vt : Value} {base : Int} {g c l : Nat → Int} (h : ParAt w pb gb cb lb n vt base g c l) (k : Grew w w') : ParAt w' pb gb cb lb n vt base g c l :=
  ⟨h.blk.grew k, h.giv.grew k, h.cls.grew k, h.lev.grew k, h.n1, h.n2, h.n3, h.n4, h.n5, h.n6⟩
theorem ParAt.but {w w' : World} {pb gb cb lb n : Nat} {vt : Value} {base : Int} {g c l l' : Nat → Int} (h : ParAt w pb gb cb lb n vt base g c l) (k : But lb w w') (r : IRow w' lb n l') : ParAt w' pb gb cb lb n vt base g c l' :=
  ⟨k.blk h.blk h.n3, k.irow h.giv h.n5, k.irow h.cls h.n6, r, h.n1, h.n2, h.n3, h.n4, h.n5, h.n6⟩
theorem grow_of (w : World) (m : Nat) (os : Array Obj) : Grew w (Go.Sort.grow (w.drewN m) os) := ((Grew.of_drewN w m)).grow os

theorem SeqAt.away {w w' : World} {sb cb c gb d n lb : Nat} {vr vt : Value} {lev st en : Int} {g f : Nat → Int} (h : SeqAt w sb cb c gb d n vr vt lev st en g f) (k : But lb w w') (e1 : sb ≠ lb) (e2 : cb ≠ lb) (e3 : gb ≠ lb) : SeqAt w' sb cb c gb d n vr vt lev st en g f :=
  ⟨k.blk h.blk e1, k.crow h.cls e2, k.crow h.giv e3, h.ne1, h.ne2⟩
theorem upto_blk {w : World} {b : Nat} {T : TypeId} {vs : List Value} (h : Blk w b T vs) (m : Nat) (os : Array Obj) : Blk (Go.Sort.grow (w.drewN m) os) b T vs := h.grew (grow_of w m os)

/-- The levels have been written up to k. -/
def upto (k : Nat) (a b : Nat → Int) : Nat → Int := fun j => if j < k then a j else b j
theorem IRow.upto_step {w : World} {b n k : Nat} {x y : Nat → Int} (h : IRow w b n (upto k x y)) : IRow (w.setCell ⟨b, k, none⟩ (.int .i64 (x k))) b n (upto (k + 1) x y) :=
  (h.set_ k (x k)).congr fun j _ => by
    unfold upto
    by_cases e : j = k
    · subst e; rw [if_pos rfl, if_pos (by omega)]
    · rw [if_neg e]
      by_cases q : j < k
      · rw [if_pos q, if_pos (by omega)]
      · rw [if_neg q, if_neg (by omega)]

set_option maxHeartbeats 4000000 in
theorem raise_any (pb pg pc lb sb cb c gb d n rb cr : Nat) (pt vt : Value) (base lev st en : Int) (g f pgv pcv l : Nat → Int) (w : World) (HP : ParAt w pb pg pc lb n pt base pgv pcv l)
    (H : SeqAt w sb cb c gb d n (.slice (some ⟨rb, 0, none⟩) n cr) vt lev st en g f) (hr : CRow w rb cr n (fun k => (k : Int))) (hl : lev = 0 ∨ lev = 1) (hf : ∀ i, i < n → f i = 0 ∨ f i = 1 ∨ f i = 3) (hn : n ≤ 100000)
    (e1 : sb ≠ lb) (e2 : cb ≠ lb) (e3 : gb ≠ lb) (e4 : rb ≠ lb) :
    Calls Try.prog 24 #[.pointer (some ⟨pb, 0, none⟩), .pointer (some ⟨sb, 0, none⟩)] w fun e w' => e = .returned (.tuple #[]) ∧ But lb w w' ∧ IRow w' lb n (fun j => lvl lev (f j)) := by
  have S0 : Hid (But lb w w ∧ IRow w lb n (upto 0 (fun j => lvl lev (f j)) l)) := ⟨But.refl _ _, HP.lev.congr fun j _ => (if_neg (by omega)).symm⟩
  have b0 := H.blk.cell 0 rfl
  have QP := hide HP
  have QH := hide H
  have QR := hide hr
  have QF := hide hf
  clear HP H hr hf
  go_enter Try.func24, Try.ntmps24
  go_wp2
  clear b0
  go_loopg [11] (n + 1) (fun gh vk wr => ∃ (k : Nat), vk = .int .i64 (k : Int) ∧ k ≤ n ∧ n - k < gh ∧ Hid (But lb w wr ∧ IRow wr lb n (upto k (fun j => lvl lev (f j)) l)))
  case atStart => exact ⟨0, by go_num, by omega, by omega, S0⟩
  case round =>
    clear S0
    obtain ⟨wo, rfl⟩ : ∃ wo : World, wo = wr := ⟨_, rfl⟩
    obtain ⟨k, rfl, hk, hg, S⟩ := hrel
    by_cases hlt : k < n
    · have hltz : (k : Int) < (n : Int) := by omega
      have h0 : (0 : Int) ≤ (k : Int) := by omega
      have ck := (S.out.1.crow QR.out e4).cell hlt
      have P := hide (QP.out.but S.out.1 S.out.2)
      have Q := hide (QH.out.away S.out.1 e1 e2 e3)
      have gp := fun m os => (upto_blk P.out.blk m os).cell 4 rfl
      have KK := fun m os => hide (levelOf_any sb cb c gb d n (.slice (some ⟨rb, 0, none⟩) n cr) vt lev st en g f k (Go.Sort.grow (wo.drewN m) os) (Q.out.grew (grow_of wo m os)) hl hlt (QF.out k hlt))
      have NX : Hid (∀ W, Grew wo W → But lb w (W.setCell ⟨lb, k, none⟩ (.int .i64 (lvl lev (f k)))) ∧ IRow (W.setCell ⟨lb, k, none⟩ (.int .i64 (lvl lev (f k)))) lb n (upto (k + 1) (fun j => lvl lev (f j)) l)) := fun W G =>
        ⟨(S.out.1.trans (But.of_grew G)).setCell rfl _, (S.out.2.grew G).upto_step⟩
      have SL := hide S.out.2
      clear S P Q
      go_wp2
      refine wp_region_stores 9 [fun W => W.setCell ⟨lb, k, none⟩ (.int .i64 (lvl lev (f k)))] (by kernel_rfl) rfl (by kernel_rfl) (by kernel_rfl) (by kernel_rfl) ?_
      repeat (first | (refine lex_skip rfl (by rfl) ?_) | (refine lex_calm rfl (by rfl) (fun K hK => ?_); go_simp; first | (refine hK _ ?_; clear hK K) | (apply Exists.intro; refine ⟨fun _ _ => ?_, hK _ ?_⟩; (with_reducible exact (KK _ _).out); (clear hK K))))
      refine lex_nil ?_
      refine stores_cons rfl ?_ ?_
      · intro w1 G1
        have c1 := (SL.out.grew G1).cell hlt
        have f1 := (SL.out.grew G1).frozen k
        go_simp
      refine stores_nil ?_
      intro w1 G1
      simp only [Act.put]
      have NX1 := hide (NX.out w1 G1)
      clear NX SL gp KK
      go_wp2
      go_roundg (n - k)
      case measure => omega
      case rel => exact ⟨k + 1, by go_num, by omega, by omega, NX1⟩
    · have hltz : ¬ (k : Int) < (n : Int) := by omega
      obtain rfl : n = k := by omega
      go_wp2
      go_end0
      exact ⟨rfl, S.out.1, S.out.2.congr fun j hj => if_pos hj⟩
end Go.Proofs.Ytdkmjhbkjhikfaa
