/- What extend does: the sequence takes the runes, their texts and classes over, one a round. -/
import Derived.Test.YtdkmjhbkjhikfaaBdX2
import Derived.Deep.CutRange
namespace Go.Proofs.Ytdkmjhbkjhikfaa
open Go.RowKit Go.Sort
set_option linter.unusedVariables false
set_option linter.unusedSimpArgs false

theorem lt_of_cell0 {w : World} {b o : Nat} {v : Value} (h : w.cell? ⟨b, o, none⟩ = some v) : b < w.heap.size := by
  rcases Nat.lt_or_ge b w.heap.size with hl | hl
  · exact hl
  · simp [World.cell?, Array.getElem?_eq_none hl] at h
theorem own_slice {w : World} {base : Nat} {e : TypeId} {size : Nat} {v : Value} {n : Nat} {xs : List Value} (h : w.ownsRow base e size v n xs) (hn : 0 < n) : ∃ b c, v = .slice (some ⟨b, 0, none⟩) n c := by
  rcases h.2 with ⟨_, h0⟩ | ⟨g, cap, cur, rfl, _⟩
  · omega
  · exact ⟨g, cap, rfl⟩

set_option maxRecDepth 100000 in
set_option maxHeartbeats 8000000 in
theorem extend_any (pb gb cb lb n kb kc tb off ct sb : Nat) (base lev st en : Int) (g l tx : Nat → Int) (w : World) (H : ParAt w pb gb cb lb n (.slice (some ⟨tb, off, none⟩) n ct) base g g l) (hk : CRow w kb kc n idF)
    (ht : ∀ k, k < n → w.cell? ⟨tb, off + k, none⟩ = some (.int .i32 (tx k))) (hn : n ≤ 100000) (hB : Blk w sb 71 [.slice none 0 0, .slice none 0 0, .slice none 0 0, .slice none 0 0, .int .i64 lev, .int .i64 st, .int .i64 en])
    (e1 : pb ≠ sb) (e2 : gb ≠ sb) (e3 : cb ≠ sb) (e4 : kb ≠ sb) (e5 : tb ≠ sb) :
    Calls Try.prog 45 #[.pointer (some ⟨pb, 0, none⟩), .pointer (some ⟨sb, 0, none⟩), .slice (some ⟨kb, 0, none⟩) n kc] w fun e w' => e = .returned (.tuple #[]) ∧ ∃ V, Ext w w' sb n 0 V lev st en tx g := by
  obtain ⟨i0, hi, hz0, hz1, hz2⟩ := info_parts info_int
  obtain ⟨i1, ri, rz0, rz1, rz2⟩ := info_parts info_rune
  have S0 : Hid (Ext w w sb 0 0 (fun _ => .slice none 0 0) lev st en tx g) := ⟨But.refl _ _, hB, hB.lt, fun i hi => by
    have e : XX tx g i (NN 0 0 i) = [] := by
      have : NN 0 0 i = 0 := if_neg (by omega)
      rw [this]; unfold XX vals rvals; (repeat' split) <;> rfl
    rw [e, show NN 0 0 i = 0 from if_neg (by omega)]
    exact World.ownsRow_nil _ _ _ _, fun i j _ _ _ b h => by simp [Value.ownBlock] at h⟩
  have HH := hide H
  have HK := hide hk
  have HT := hide ht
  have hlt := hide hB.lt
  have E := hide (And.intro e1 (And.intro e2 (And.intro e3 (And.intro e4 e5))))
  clear H hk ht hB e1 e2 e3 e4 e5
  go_enter Try.func45, Try.ntmps45
  go_wp2
  go_loopg [10] (n + 1) (fun gh vk wr => ∃ (k : Nat) (V : Nat → Value), vk = .int .i64 (k : Int) ∧ k ≤ n ∧ n - k < gh ∧ Hid (Ext w wr sb k 0 V lev st en tx g))
  case atStart => exact ⟨0, _, by go_num, by omega, by omega, S0⟩
  case round =>
    clear S0
    obtain ⟨wo, rfl⟩ : ∃ wo : World, wo = wr := ⟨_, rfl⟩
    obtain ⟨k, V, rfl, hk, hg, S⟩ := hrel
    by_cases hlt : k < n
    · have hltz : (k : Int) < (n : Int) := by omega
      have h0 : (0 : Int) ≤ (k : Int) := by omega
      have ck : wo.cell? ⟨kb, k, none⟩ = some (.int .i64 (k : Int)) := (S.out.but.crow HK.out E.out.2.2.2.1).cell hlt
      have b0 := S.out.blk.cell 0 rfl
      have sz := S.out.blk.lt
      have own0 := hide (S.out.cur (by omega))
      have hbase := hide S.out.but.size
      have fin0 : Hid (∀ v' w1, w1.ownsRow w.heap.size 3 1 v' (k + 1) (XX tx g 0 k ++ [.int .i64 (k : Int)]) → (wo.alloc (.cells #[.int .i64 (k : Int)] 3)).grownBy w1 (V 0).ownBlock → (wo.alloc (.cells #[.int .i64 (k : Int)] 3)).drawn ≤ w1.drawn →
          (v'.ownBlock = (V 0).ownBlock ∨ v'.ownBlock = some (wo.heap.size + 1)) → Ext w (w1.setCell ⟨sb, 0, none⟩ v') sb k 1 (upd V 0 v') lev st en tx g) :=
        fun v' w1 h1 h2 h3 h4 => S.out.step (by omega) ((Grew.refl wo).alloc _) h1 h2 h3 (by simpa using h4)
      have keep0 : Hid (∀ w1, (wo.alloc (.cells #[.int .i64 (k : Int)] 3)).grownBy w1 (V 0).ownBlock → Blk w1 sb 71 [V 0, V 1, V 2, V 3, .int .i64 lev, .int .i64 st, .int .i64 en]) := fun w1 h =>
        (S.out.blk.alloc _).same (h.block sb (S.out.blk.alloc _).lt (fun e => by have := ((S.out.own 0 (by omega)).lt sb e.symm).1; have := S.out.lt; omega))
      clear S
      go_wp2_with (at_builtin; refine wpList_append_drawn2 _ rfl _ _ 22 rfl w.heap.size 3 i0 (.int .i64 0) 1 8 Try.underlying22 hi hz0 hz1 hz2 rfl (by decide) _ _ _ rfl (own0.out.alloc _) ⟨wo.heap.size, 0, none⟩ 1 1 [.int .i64 (k : Int)] rfl (by decide) rfl ?c1 ?c2 ?c3 ?c4 ?c5 ?_)
      case c1 =>
        intro j u hj
        match j, hj with
        | 0, hj => simp at hj; subst hj; simp [Addr.add]
      case c2 => intro u hu; simp at hu; subst hu; rfl
      case c3 => unfold maxLen; omega
      case c4 => omega
      case c5 => have := hbase.out; simp; omega
      · intro v' w1 hown' hgrow hd halt
        have q := keep0.out w1 hgrow
        have x0 := q.cell 0 rfl
        have y0 := q.free 0
        have F := hide (fin0.out v' w1 hown' hgrow hd halt)
        obtain ⟨b', c', rfl⟩ := own_slice hown' (by omega)
        clear hown' hgrow hd halt q fin0 keep0 own0 ck b0 hbase sz
        go_wp2
        generalize upd V 0 (.slice (some ⟨b', 0, none⟩) (k + 1) c') = V1 at *
        generalize w1.setCell ⟨sb, 0, none⟩ (.slice (some ⟨b', 0, none⟩) (k + 1) c') = w2 at *
        clear x0 y0
        have F1 := F
        clear F
        go_cut [10] from 10 to 72 (fun s10 wc => s10 = .int .i64 (k : Int) ∧ ∃ V' : Nat → Value, Hid (Ext w wc sb k 2 V' lev st en tx g))
        case first =>
          have own1 := hide (F1.out.cur (by omega))
          have hbase1 := hide F1.out.but.size
          have sz1 := F1.out.blk.lt
          have b1 := F1.out.blk.cell 1 rfl
          have pk1 := F1.out.but.blk HH.out.blk E.out.1
          have pp1 := pk1.cell 0 rfl
          have psz1 := pk1.lt
          have tk1 : w2.cell? ⟨tb, off + k, none⟩ = some (.int .i32 (tx k)) := (World.cell?_of_block (a := ⟨tb, off + k, none⟩) (F1.out.but.block tb (lt_of_cell0 (HT.out k hlt)) E.out.2.2.2.2)).trans (HT.out k hlt)
          have tsz1 : tb < w2.heap.size := Nat.lt_of_lt_of_le (lt_of_cell0 (HT.out k hlt)) hbase1.out
          have fin1 : Hid (∀ wa v' w1, Grew w2 wa → w1.ownsRow w.heap.size 21 1 v' (k + 1) (XX tx g 1 k ++ [.int .i32 (tx k)]) → wa.grownBy w1 (V1 1).ownBlock → wa.drawn ≤ w1.drawn →
              (v'.ownBlock = (V1 1).ownBlock ∨ v'.ownBlock = some wa.heap.size) → Ext w (w1.setCell ⟨sb, 1, none⟩ v') sb k 2 (upd V1 1 v') lev st en tx g) :=
            fun wa v' w1 ga h1 h2 h3 h4 => F1.out.step (by omega) ga h1 h2 h3 h4
          have keep1 : Hid (∀ wa w1, Grew w2 wa → wa.grownBy w1 (V1 1).ownBlock → Blk w1 sb 71 [V1 0, V1 1, V1 2, V1 3, .int .i64 lev, .int .i64 st, .int .i64 en]) := fun wa w1 ga h =>
            (F1.out.blk.grew ga).same (h.block sb (F1.out.blk.grew ga).lt (fun e => by have := ((F1.out.own 1 (by omega)).lt sb e.symm).1; have := F1.out.lt; omega))
          have wz1 : Hid (∀ wa, Grew w2 wa → w.heap.size ≤ wa.heap.size) := fun wa ga => Nat.le_trans hbase1.out ga.size
          clear F1 pk1
          go_region_law (first | (refine step_append_drawn rfl _ _ 23 rfl w.heap.size 21 i1 (.int .i32 0) 1 4 Try.underlying23 ri rz0 rz1 rz2 rfl (by decide) (V1 1) k _ rfl (own_grew own1.out (by first | exact (Grew.refl w2).drew.alloc _ | exact ((Grew.refl w2).alloc _).drew)) ⟨w2.heap.size, 0, none⟩ 1 1 [.int .i32 (tx k)] rfl (by decide) rfl (fun j u hj => by (match j, hj with | 0, hj => simp at hj; subst hj; simp [Addr.add])) (fun u hu => by simp at hu; subst hu; rfl) (by unfold maxLen; omega) (by omega) (wz1.out _ (by first | exact (Grew.refl w2).drew.alloc _ | exact ((Grew.refl w2).alloc _).drew)) ?_; intro v' w3 hown' hgrow hd halt; have q := keep1.out _ w3 (by first | exact (Grew.refl w2).drew.alloc _ | exact ((Grew.refl w2).alloc _).drew) hgrow; have x0 := q.cell 1 rfl; have y0 := q.free 1; have F := hide (fin1.out _ v' w3 (by first | exact (Grew.refl w2).drew.alloc _ | exact ((Grew.refl w2).alloc _).drew) hown' hgrow hd halt); obtain ⟨b', c', rfl⟩ := own_slice hown' (by omega)))
          all_goals
            go_wp2
            go_meet
            case rel => exact ⟨rfl, _, F⟩
        obtain ⟨rfl, V2, F2⟩ := hcut
        clear F1
        go_wp2

        go_cut [10] from 10 to 72 (fun s10 wc => s10 = .int .i64 (k : Int) ∧ ∃ V' : Nat → Value, Hid (Ext w wc sb k 3 V' lev st en tx g))
        case first =>
          have own2 := hide (F2.out.cur (by omega))
          have hbase2 := hide F2.out.but.size
          have sz2 := F2.out.blk.lt
          have b2 := F2.out.blk.cell 2 rfl
          have pk2 := F2.out.but.blk HH.out.blk E.out.1
          have pp2 := pk2.cell 2 rfl
          have psz2 := pk2.lt
          have tk2 := (F2.out.but.irow HH.out.giv E.out.2.1).cell hlt
          have tsz2 := (F2.out.but.irow HH.out.giv E.out.2.1).lt
          have fin2 : Hid (∀ wa v' w1, Grew wc wa → w1.ownsRow w.heap.size 3 1 v' (k + 1) (XX tx g 2 k ++ [.int .i64 (g k)]) → wa.grownBy w1 (V2 2).ownBlock → wa.drawn ≤ w1.drawn →
              (v'.ownBlock = (V2 2).ownBlock ∨ v'.ownBlock = some wa.heap.size) → Ext w (w1.setCell ⟨sb, 2, none⟩ v') sb k 3 (upd V2 2 v') lev st en tx g) :=
            fun wa v' w1 ga h1 h2 h3 h4 => F2.out.step (by omega) ga h1 h2 h3 h4
          have keep2 : Hid (∀ wa w1, Grew wc wa → wa.grownBy w1 (V2 2).ownBlock → Blk w1 sb 71 [V2 0, V2 1, V2 2, V2 3, .int .i64 lev, .int .i64 st, .int .i64 en]) := fun wa w1 ga h =>
            (F2.out.blk.grew ga).same (h.block sb (F2.out.blk.grew ga).lt (fun e => by have := ((F2.out.own 2 (by omega)).lt sb e.symm).1; have := F2.out.lt; omega))
          have wz2 : Hid (∀ wa, Grew wc wa → w.heap.size ≤ wa.heap.size) := fun wa ga => Nat.le_trans hbase2.out ga.size
          clear F2 pk2
          go_region_law (first | (refine step_append_drawn rfl _ _ 22 rfl w.heap.size 3 i0 (.int .i64 0) 1 8 Try.underlying22 hi hz0 hz1 hz2 rfl (by decide) (V2 2) k _ rfl (own_grew own2.out (by first | exact (Grew.refl wc).drew.alloc _ | exact ((Grew.refl wc).alloc _).drew)) ⟨wc.heap.size, 0, none⟩ 1 1 [.int .i64 (g k)] rfl (by decide) rfl (fun j u hj => by (match j, hj with | 0, hj => simp at hj; subst hj; simp [Addr.add])) (fun u hu => by simp at hu; subst hu; rfl) (by unfold maxLen; omega) (by omega) (wz2.out _ (by first | exact (Grew.refl wc).drew.alloc _ | exact ((Grew.refl wc).alloc _).drew)) ?_; intro v' w3 hown' hgrow hd halt; have q := keep2.out _ w3 (by first | exact (Grew.refl wc).drew.alloc _ | exact ((Grew.refl wc).alloc _).drew) hgrow; have x0 := q.cell 2 rfl; have y0 := q.free 2; have F := hide (fin2.out _ v' w3 (by first | exact (Grew.refl wc).drew.alloc _ | exact ((Grew.refl wc).alloc _).drew) hown' hgrow hd halt); obtain ⟨b', c', rfl⟩ := own_slice hown' (by omega)))
          all_goals
            go_wp2
            go_meet
            case rel => exact ⟨rfl, _, F⟩
        obtain ⟨rfl, V3, F3⟩ := hcut
        clear F2
        go_wp2

        have own3 := hide (F3.out.cur (by omega))
        have hbase3 := hide F3.out.but.size
        have sz3 := F3.out.blk.lt
        have b3 := F3.out.blk.cell 3 rfl
        have pk3 := F3.out.but.blk HH.out.blk E.out.1
        have pp3 := pk3.cell 3 rfl
        have psz3 := pk3.lt
        have tk3 := (F3.out.but.irow HH.out.cls E.out.2.2.1).cell hlt
        have tsz3 := (F3.out.but.irow HH.out.cls E.out.2.2.1).lt
        have fin3 : Hid (∀ wa v' w1, Grew wc wa → w1.ownsRow w.heap.size 3 1 v' (k + 1) (XX tx g 3 k ++ [.int .i64 (g k)]) → wa.grownBy w1 (V3 3).ownBlock → wa.drawn ≤ w1.drawn →
            (v'.ownBlock = (V3 3).ownBlock ∨ v'.ownBlock = some wa.heap.size) → Ext w (w1.setCell ⟨sb, 3, none⟩ v') sb k 4 (upd V3 3 v') lev st en tx g) :=
          fun wa v' w1 ga h1 h2 h3 h4 => F3.out.step (by omega) ga h1 h2 h3 h4
        have keep3 : Hid (∀ wa w1, Grew wc wa → wa.grownBy w1 (V3 3).ownBlock → Blk w1 sb 71 [V3 0, V3 1, V3 2, V3 3, .int .i64 lev, .int .i64 st, .int .i64 en]) := fun wa w1 ga h =>
          (F3.out.blk.grew ga).same (h.block sb (F3.out.blk.grew ga).lt (fun e => by have := ((F3.out.own 3 (by omega)).lt sb e.symm).1; have := F3.out.lt; omega))
        have wz3 : Hid (∀ wa, Grew wc wa → w.heap.size ≤ wa.heap.size) := fun wa ga => Nat.le_trans hbase3.out ga.size
        clear F3 pk3
        go_region_law (first | (refine step_append_drawn rfl _ _ 22 rfl w.heap.size 3 i0 (.int .i64 0) 1 8 Try.underlying22 hi hz0 hz1 hz2 rfl (by decide) (V3 3) k _ rfl (own_grew own3.out (by first | exact (Grew.refl wc).drew.alloc _ | exact ((Grew.refl wc).alloc _).drew)) ⟨wc.heap.size, 0, none⟩ 1 1 [.int .i64 (g k)] rfl (by decide) rfl (fun j u hj => by (match j, hj with | 0, hj => simp at hj; subst hj; simp [Addr.add])) (fun u hu => by simp at hu; subst hu; rfl) (by unfold maxLen; omega) (by omega) (wz3.out _ (by first | exact (Grew.refl wc).drew.alloc _ | exact ((Grew.refl wc).alloc _).drew)) ?_; intro v' w3 hown' hgrow hd halt; have q := keep3.out _ w3 (by first | exact (Grew.refl wc).drew.alloc _ | exact ((Grew.refl wc).alloc _).drew) hgrow; have x0 := q.cell 3 rfl; have y0 := q.free 3; have F := hide (fin3.out _ v' w3 (by first | exact (Grew.refl wc).drew.alloc _ | exact ((Grew.refl wc).alloc _).drew) hown' hgrow hd halt); obtain ⟨b', c', rfl⟩ := own_slice hown' (by omega)))
        all_goals
          have NX := hide F.out.next
          go_wp2
          go_roundg (n - k)
          case measure => omega
          case rel => exact ⟨k + 1, _, by go_num, by omega, by omega, NX⟩
    · have hltz : ¬ (k : Int) < (n : Int) := by omega
      obtain rfl : n = k := by omega
      go_wp2
      go_end0
      exact ⟨rfl, V, S.out⟩
end Go.Proofs.Ytdkmjhbkjhikfaa
