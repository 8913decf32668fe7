/- What kept and levelRuns return in a paragraph of simple classes, all levels equal, that is not empty. -/
import Derived.Test.YtdkmjhbkjhikfaaBdT
import Derived.Test.YtdkmjhbkjhikfaaBdP
namespace Go.Proofs.Ytdkmjhbkjhikfaa
open Go.RowKit Go.Sort
set_option linter.unusedVariables false
set_option linter.unusedSimpArgs false

def idF (k : Nat) : Int := (k : Int)
set_option maxHeartbeats 4000000 in
theorem kept_any (pb gb cb lb n : Nat) (vt : Value) (base : Int) (g c l : Nat → Int) (w : World) (H : ParAt w pb gb cb lb n vt base g c l) (hs : ∀ k, k < n → Sm (g k)) (hn : n ≤ 100000) (hp : 0 < n) :
    Calls Try.prog 42 #[.pointer (some ⟨pb, 0, none⟩)] w fun e w' => ∃ b cap, e = .returned (.slice (some ⟨b, 0, none⟩) n cap) ∧ Grew w w' ∧ w.heap.size ≤ b ∧ CRow w' b cap n idF := by
  obtain ⟨i0, hi, hz0, hz1, hz2⟩ := info_parts info_int
  have b2 := H.blk.cell 2 rfl
  have HG := hide H.giv
  have HS := hide hs
  have S0 : Hid (Grew w w ∧ w.ownsRow w.heap.size 3 1 (.slice none 0 0) 0 (vals 0 idF)) := ⟨Grew.refl _, World.ownsRow_nil _ _ _ _⟩
  clear H hs
  go_enter Try.func42, Try.ntmps42
  go_wp2
  clear b2
  go_loopg [3, 11] (n + 1) (fun gh v3 vk wr => ∃ (k : Nat), vk = .int .i64 (k : Int) ∧ k ≤ n ∧ n - k < gh ∧ Hid (Grew w wr ∧ wr.ownsRow w.heap.size 3 1 v3 k (vals k idF)))
  case atStart => exact ⟨0, by go_num, by omega, by omega, S0⟩
  case round =>
    clear S0
    obtain ⟨wo, rfl⟩ : ∃ wo : World, wo = wr := ⟨_, rfl⟩
    obtain ⟨k, rfl, hk, hg, S⟩ := hrel
    by_cases hlt : k < n
    · have hltz : (k : Int) < (n : Int) := by omega
      have gk := (HG.out.grew S.out.1).cell hlt
      have K := hide (removed_no (g k) wo (HS.out k hlt))
      have hown := S.out.2
      have hsz : Hid (w.heap.size ≤ wo.heap.size) := S.out.1.size
      go_wp2_with fail
      refine K.out.mono ?_
      rintro e w' ⟨rfl, rfl⟩
      clear K gk
      go_wp2_with (at_builtin; refine wpList_append_drawn _ rfl _ _ 22 rfl w.heap.size 3 i0 (.int .i64 0) 1 8 Try.underlying22 hi hz0 hz1 hz2 rfl (by decide) _ _ _ rfl (hown.alloc _) ⟨wo.heap.size, 0, none⟩ 1 1 [.int .i64 (k : Int)] rfl (by decide) rfl ?c1 ?c2 ?c3 ?c4 ?c5 ?_)
      case c1 =>
        intro j u hj
        match j, hj with
        | 0, hj => simp at hj; subst hj; simp [Addr.add]
      case c2 => intro u hu; simp at hu; subst hu; rfl
      case c3 => unfold maxLen; omega
      case c4 => omega
      case c5 => have := hsz.out; simp; omega
      · intro v' w1 hown' hgrow hd
        have NX : Hid (Grew w w1 ∧ w1.ownsRow w.heap.size 3 1 v' (k + 1) (vals (k + 1) idF)) :=
          ⟨(S.out.1.alloc _).appended hgrow hd (own_lt hown), by rw [vals_succ]; exact hown'⟩
        clear hown' hgrow hown S hd
        go_wp2
        go_roundg (n - k)
        case measure => omega
        case rel => exact ⟨k + 1, by go_num, by omega, by omega, NX⟩
    · have hltz : ¬ (k : Int) < (n : Int) := by omega
      obtain rfl : n = k := by omega
      go_wp2
      go_ret
      obtain ⟨b, cap, rfl, hb, hc⟩ := own_crow S.out.2 hp
      exact ⟨b, cap, rfl, S.out.1, hb, hc⟩

/-- Block b begins with two integers, a struct's. -/
def PRow (w : World) (b : Nat) (T : TypeId) (x y : Int) : Prop := ∃ cur : Array Value, w.heap[b]? = some (.cells cur T (0, 0)) ∧ cur[0]? = some (.int .i64 x) ∧ cur[1]? = some (.int .i64 y)
section
variable {w w' : World} {b : Nat} {T : TypeId} {x y : Int}
theorem PRow.lt (h : PRow w b T x y) : b < w.heap.size := by obtain ⟨cur, h1, _⟩ := h; exact (Array.getElem?_eq_some_iff.1 h1).1
theorem PRow.cell0 (h : PRow w b T x y) : w.cell? ⟨b, 0, none⟩ = some (.int .i64 x) := by obtain ⟨cur, h1, h2, h3⟩ := h; rw [cell_of_row w b 0 _ T (0, 0) h1]; exact h2
theorem PRow.cell1 (h : PRow w b T x y) : w.cell? ⟨b, 1, none⟩ = some (.int .i64 y) := by obtain ⟨cur, h1, h2, h3⟩ := h; rw [cell_of_row w b 1 _ T (0, 0) h1]; exact h3
theorem PRow.frozen (h : PRow w b T x y) (i : Nat) : w.frozen? ⟨b, i, none⟩ = false := by obtain ⟨cur, h1, _⟩ := h; simp [World.frozen?, h1]
theorem PRow.same (h : PRow w b T x y) (g : w'.heap[b]? = w.heap[b]?) : PRow w' b T x y := by obtain ⟨cur, h1, h2⟩ := h; exact ⟨cur, g.trans h1, h2⟩
theorem PRow.grew (h : PRow w b T x y) (g : Grew w w') : PRow w' b T x y := h.same (g.1.block b h.lt)
theorem PRow.set1 (h : PRow w b T x y) (v : Int) : PRow (w.setCell ⟨b, 1, none⟩ (.int .i64 v)) b T x v := by
  obtain ⟨cur, h1, h2, h3⟩ := h
  refine ⟨cur.setIfInBounds 1 (.int .i64 v), by simp [World.setCell, Array.getElem?_modify, h1], ?_, ?_⟩
  · rw [Array.getElem?_setIfInBounds]; simpa using h2
  · have : 1 < cur.size := (Array.getElem?_eq_some_iff.1 h3).1
    rw [Array.getElem?_setIfInBounds]; simp [this]
end
theorem own_prow {w : World} {base : Nat} {T : TypeId} {v : Value} {x y : Int} (h : w.ownsRow base T 2 v 1 [.int .i64 x, .int .i64 y]) : ∃ b c, v = .slice (some ⟨b, 0, none⟩) 1 c ∧ 1 ≤ c ∧ base ≤ b ∧ PRow w b T x y := by
  rcases h.2 with ⟨rfl, h0⟩ | ⟨g, cap, cur, rfl, hb, hg, hc, hm, hs, ht⟩
  · omega
  · refine ⟨g, cap, rfl, hc, hb, cur, hg, ?_, ?_⟩
    · have : (cur.toList.take (1 * 2))[0]? = some (.int .i64 x) := by rw [ht]; rfl
      rw [List.getElem?_take, if_pos (by omega)] at this; simpa using this
    · have : (cur.toList.take (1 * 2))[1]? = some (.int .i64 y) := by rw [ht]; rfl
      rw [List.getElem?_take, if_pos (by omega)] at this; simpa using this
theorem info_run : (Try.prog.info? 69).map (fun i => (i.zero, i.size, i.bytes)) = some (some (.agg #[.int .i64 0, .int .i64 0]), 2, 16) := by kernel_rfl

set_option maxRecDepth 100000 in
set_option maxHeartbeats 4000000 in
theorem levelRuns_any (pb gb cb lb n kb kc : Nat) (vt : Value) (base : Int) (g c : Nat → Int) (w : World) (H : ParAt w pb gb cb lb n vt base g c (fun _ => base)) (hk : CRow w kb kc n idF) (hn : n ≤ 100000) (hp : 0 < n) :
    Calls Try.prog 43 #[.pointer (some ⟨pb, 0, none⟩), .slice (some ⟨kb, 0, none⟩) n kc] w fun e w' => ∃ b cap, e = .returned (.slice (some ⟨b, 0, none⟩) 1 cap) ∧ Grew w w' ∧ (w.heap.size ≤ b ∧ 1 ≤ cap) ∧ PRow w' b 69 0 n := by
  obtain ⟨i0, hi, hz0, hz1, hz2⟩ := info_parts info_run
  have HH := hide H
  have HK := hide hk
  have S0 : Hid (Grew w w) := Grew.refl _
  clear H hk
  go_enter Try.func43, Try.ntmps43
  go_wp2
  go_loopg [5, 10] (n + 1) (fun gh v5 vk wr => ∃ (k : Nat), vk = .int .i64 (k : Int) ∧ k ≤ n ∧ n - k < gh ∧ Hid (Grew w wr) ∧ ((k = 0 ∧ v5 = .slice none 0 0) ∨ (∃ m b cap, k = m + 1 ∧ v5 = .slice (some ⟨b, 0, none⟩) 1 cap ∧ Hid ((w.heap.size ≤ b ∧ 1 ≤ cap) ∧ PRow wr b 69 0 (m + 1 : Nat)))))
  case atStart => exact ⟨0, by go_num, by omega, by omega, S0, Or.inl ⟨rfl, rfl⟩⟩
  case round =>
    clear S0
    obtain ⟨wo, rfl⟩ : ∃ wo : World, wo = wr := ⟨_, rfl⟩
    obtain ⟨k, rfl, hk, hg, G, hc⟩ := hrel
    have P := hide (HH.out.grew G.out)
    have Q := hide (HK.out.same (G.out.1.block kb HK.out.lt))
    have b4 := P.out.blk.cell 4 rfl
    by_cases hlt : k < n
    · have hltz : (k : Int) < (n : Int) := by omega
      have ck : wo.cell? ⟨kb, k, none⟩ = some (.int .i64 (k : Int)) := Q.out.cell hlt
      have lk := P.out.lev.cell hlt
      have hsz : Hid (w.heap.size ≤ wo.heap.size) := G.out.size
      rcases hc with ⟨rfl, rfl⟩ | ⟨m, b, cap, rfl, rfl, R⟩
      · go_wp2
        go_quiet (fail)
        have G1 := hide (G.out.drewN nq)
        have hsz2 : Hid (w.heap.size ≤ (wo.drewN nq).heap.size) := hsz
        have hown := World.ownsRow_nil (wo.drewN nq) w.heap.size 69 2
        clear ck lk hsz b4 P Q G
        generalize wo.drewN nq = w2 at *
        go_wp2_with (at_builtin; refine wpList_append_drawn _ rfl _ _ 65 rfl w.heap.size 69 i0 (.agg #[.int .i64 0, .int .i64 0]) 2 16 Try.underlying65 hi hz0 hz1 hz2 rfl (by decide) _ _ _ rfl (hown.alloc _) ⟨w2.heap.size, 0, none⟩ 1 1 [.int .i64 0, .int .i64 0] rfl (by decide) rfl ?c1 ?c2 ?c3 ?c4 ?c5 ?_)
        case c1 =>
          intro j u hj
          match j, hj with
          | 0, hj => simp at hj; subst hj; simp [Addr.add]
          | 1, hj => simp at hj; subst hj; simp [Addr.add]
        case c2 => intro u hu; simp at hu; subst hu; rfl
        case c3 => unfold maxLen; omega
        case c4 => omega
        case c5 => have := hsz2.out; simp; omega
        · intro v' w1 hown' hgrow hd
          obtain ⟨b, cap, rfl, hcap, hb, hr⟩ := own_prow hown'
          have GG := hide ((G1.out.alloc _).appended hgrow hd (fun k h => by simp [Value.ownBlock] at h))
          have c1 := hr.cell1
          have f1 := hr.frozen 1
          have NX : Hid ((w.heap.size ≤ b ∧ 1 ≤ cap) ∧ PRow (w1.setCell ⟨b, 1, none⟩ (.int .i64 1)) b 69 0 ((0 + 1 : Nat) : Int)) := ⟨⟨hb, hcap⟩, hr.set1 1⟩
          have G2 : Hid (Grew w (w1.setCell ⟨b, 1, none⟩ (.int .i64 1))) := GG.out.setCell hb _
          clear hown' hgrow hown hd hr GG G1
          go_wp2
          go_roundg n
          case measure => omega
          case rel => exact ⟨1, by go_num, by omega, by omega, G2, Or.inr ⟨0, b, cap, rfl, rfl, NX⟩⟩
      · have ck' : wo.cell? ⟨kb, m, none⟩ = some (.int .i64 (m : Int)) := Q.out.cell (i := m) (by omega)
        have lk' := P.out.lev.cell (i := m) (by omega)
        have hm0 : (0 : Int) ≤ (m : Int) := by omega
        have hmn : (m : Int) < (n : Int) := by omega
        have hz : (((m + 1 : Nat) : Int) == 0) = false := by simp; omega
        have hz' : (((m : Int) + 1) == 0) = false := by simp; omega
        have hz2 : decide ((m : Int) + 1 = 0) = false := by simp; omega
        have c1 := R.out.2.cell1
        have f1 := R.out.2.frozen 1
        have NX : Hid ((w.heap.size ≤ b ∧ 1 ≤ cap) ∧ ∀ q, PRow ((wo.drewN q).setCell ⟨b, 1, none⟩ (.int .i64 (((m + 1 + 1 : Nat) : Int)))) b 69 0 ((m + 1 + 1 : Nat) : Int)) := ⟨R.out.1, fun q => (show PRow (wo.drewN q) b _ 0 _ from R.out.2).set1 _⟩
        have G2 : Hid (∀ q, Grew w ((wo.drewN q).setCell ⟨b, 1, none⟩ (.int .i64 (((m + 1 + 1 : Nat) : Int))))) := fun q => (G.out.drewN q).setCell R.out.1.1 _
        clear P Q G R hsz
        go_wp2
        go_quiet (fail)
        go_wp2
        go_roundg (n - (m + 1))
        case measure => omega
        case rel => exact ⟨m + 1 + 1, by go_num, by omega, by omega, hide (G2.out _), Or.inr ⟨m + 1, b, cap, rfl, rfl, hide ⟨NX.out.1, NX.out.2 _⟩⟩⟩
    · have hltz : ¬ (k : Int) < (n : Int) := by omega
      obtain rfl : n = k := by omega
      clear b4
      have HC := hide hc
      clear hc
      go_wp2
      go_ret
      rcases HC.out with ⟨rfl, rfl⟩ | ⟨m, b, cap, rfl, rfl, R⟩
      · omega
      · exact ⟨b, cap, rfl, G.out, R.out.1, R.out.2⟩
end Go.Proofs.Ytdkmjhbkjhikfaa
