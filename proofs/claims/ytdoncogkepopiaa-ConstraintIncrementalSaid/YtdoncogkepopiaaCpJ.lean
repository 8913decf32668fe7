/- slices.Delete of one constraint out of a list of the call's own; no condition but on sizes. -/
import Derived.Test.YtdoncogkepopiaaCpI
import Derived.Laws.IdiomCopy
import Derived.ArgAppend
import Derived.Lib.LazyBuf
import Derived.Deep.MidRow
namespace Go.Proofs.Ytdoncogkepopiaa
open Go.RowKit Go.Sort Go.Shelf
set_option linter.unusedVariables false
set_option linter.unusedSimpArgs false

/-- A list without its constraint i. -/
def woC (l : Nat → Cn) (i k : Nat) : Cn := if k < i then l k else l (k + 1)
theorem does_room {P : Program} (w : World) {o : Oper} {ev : Operand → Value} {R : Value → World → Prop} (s x : Operand) (t : TypeId)
    (ho : o.op = .call { callee := .builtin .append, args := #[s, x], argTypes := #[t, t] }) (e : TypeId) (i : TypeInfo) (size : Nat) (ht : P.underlying t = some (.slice e)) (hi : P.info? e = some i) (hsize : i.size = size)
    (b off n cap : Nat) (hs : ev s = .slice (some ⟨b, off, none⟩) n cap) (ad : Addr) (m c : Nat) (news : List Value) (hx : ev x = .slice (some ad) m c) (hl : news.length = m * size) (hnews : ∀ j u, news[j]? = some u → w.cell? (ad.add j) = some u) (h1 : ∀ u ∈ news, u.oneCell' = true)
    (hroom : n + m ≤ cap) (hc : ∀ j, j < news.length → (w.cell? ⟨b, off + n * size + j, none⟩).isSome = true) (hf : ∀ j, j < news.length → w.frozen? ⟨b, off + n * size + j, none⟩ = false)
    (h : R (.slice (some ⟨b, off, none⟩) (n + m) cap) (w.setCells b (off + n * size) news)) : does P o ev w R := by
  subst hsize
  have hr := run_append_room_cells (P := P) (w := w) t o.type e i ht hi b off n cap ad m c news hl hnews h1 hroom hc hf
  unfold does execOp
  simp only [ho, resolve, invoke, builtin, Sem.run_bind, Sem.run_pure, Result.andThen_ok, List.map_toArray, List.map_cons, List.map_nil, hs, hx, hr, doesUpon]
  exact h
theorem run_clear_one {P : Program} (w : World) (t e ty : TypeId) (z : Value) (zs : List Value) (ht : P.underlying t = some (.slice e)) (hv : ∀ w, (zeroValue e).run P w = .ok z w) (hz : (Builtin.zeroCells z.cells 1).toList = zs) (h1 : ∀ u ∈ zs, u.oneCell' = true) (b o c : Nat)
    (hc : ∀ j, j < zs.length → (w.cell? ⟨b, o + j, none⟩).isSome = true) (hf : ∀ j, j < zs.length → w.frozen? ⟨b, o + j, none⟩ = false) :
    (Builtin.clear_ #[t] ty #[.slice (some ⟨b, o, none⟩) 1 c]).run P w = .ok (.tuple #[]) (w.setCells b o zs) := by
  have hst := run_storeCells_cells (P := P) b o zs 0 w (by simpa using hc) (by simpa using hf) h1
  simp only [Nat.add_zero] at hst
  simp [Builtin.clear_, run_underlying ht, hv, hz, hst]
def dlSt (w : World) (g i m cap : Nat) (news : List Value) : List Value → World → Prop
  | [], W => W = w.drew
  | u :: r, W => u = .slice (some ⟨g, 0, none⟩) (m - 1) cap ∧ W = w.drew.setCells g (i * 5) news ∧ ∀ v, r = [v] → v = u
/-- What a call of Delete has returned and left. -/
def DlP (base m i : Nat) (l : Nat → Cn) (w : World) (e : Ending) (w' : World) : Prop := ∃ q c, e = .returned (.slice q (m - 1) c) ∧ m - 1 ≤ c ∧ SRow w' q (m - 1) 5 (cnC (woC l i)) ∧ ∀ (B : Nat) (w0 : World), B ≤ base → Below B w0 w → Below B w0 w'
set_option maxHeartbeats 8000000 in
set_option maxRecDepth 100000 in
theorem pdelete_any (v : Value) (m i base : Nat) (l : Nat → Cn) (w : World) (hO : w.ownsRow base 40 5 v m (flat m 5 (cnC l))) (hi : i < m) (hm : m ≤ 100000) :
    Calls Try.prog 32 #[v, .int .i64 (i : Int), .int .i64 ((i : Int) + 1)] w (DlP base m i l w) := by
  rcases hO.2 with ⟨rfl, h0⟩ | ⟨g, cap, cur, rfl, hbg, hg, hmc, hcm, hcs, ht⟩
  · omega
  have CELL : ∀ k r, k < m → r < 5 → w.cell? ⟨g, k * 5 + r, none⟩ = some (cnC l k r) := fun k r hk hr => by
    have h1 := flat_get (f := cnC l) hk hr
    rw [← ht, List.getElem?_take] at h1
    split at h1
    · rw [cell_of_row w g _ _ 40 (0, 0) hg]; simpa using h1
    · cases h1
  have EX : ∀ o, o < cap * 5 → (w.cell? ⟨g, o, none⟩).isSome = true := fun o ho => by
    rw [cell_of_row w g _ _ 40 (0, 0) hg, Array.getElem?_eq_getElem (by rw [hcs]; exact ho)]
    rfl
  have FZ : ∀ o, w.frozen? ⟨g, o, none⟩ = false := fun o => frozen_of_row w g o _ _ hg
  obtain ⟨news, hnews⟩ : ∃ news, news = flat (m - (i + 1)) 5 (fun k => cnC l (k + (i + 1))) := ⟨_, rfl⟩
  have NL : news.length = (m - (i + 1)) * 5 := by rw [hnews, flat_len]
  have NG : ∀ k r, k < m - (i + 1) → r < 5 → news[k * 5 + r]? = some (cnC l (k + (i + 1)) r) := fun k r hk hr => by rw [hnews]; exact flat_get hk hr
  have N1 : ∀ u ∈ news, u.oneCell' = true := by rw [hnews]; exact flat_one (fun a b => cn_one l _ b)
  obtain ⟨zs, hzs⟩ : ∃ zs : List Value, zs = [.int .i64 0, .int .i64 0, .int .i64 0, .int .i64 0, .int .i64 0] := ⟨_, rfl⟩
  have ZL : zs.length = 5 := by rw [hzs]; rfl
  have Z1 : ∀ u ∈ zs, u.oneCell' = true := by intro u hu; rw [hzs] at hu; simp at hu; rcases hu with rfl; rfl
  have EX1 : ∀ o, o < cap * 5 → ((w.drew.setCells g (i * 5) news).cell? ⟨g, o, none⟩).isSome = true := fun o ho => World.isSome_setCells g news (i * 5) w.drew ⟨g, o, none⟩ (EX o ho)
  have FZ1 : ∀ o, (w.drew.setCells g (i * 5) news).frozen? ⟨g, o, none⟩ = false := fun o => (World.frozen?_setCells g news (i * 5) w.drew ⟨g, o, none⟩).trans (FZ o)
  have FIN : Hid (∀ c, m - 1 ≤ c → SRow ((w.drew.setCells g (i * 5) news).setCells g ((m - 1) * 5) zs) (some ⟨g, 0, none⟩) (m - 1) 5 (cnC (woC l i)) ∧ ∀ (B : Nat) (w0 : World), B ≤ base → Below B w0 w → Below B w0 ((w.drew.setCells g (i * 5) news).setCells g ((m - 1) * 5) zs)) := fun c hc => by
    refine ⟨fun _ => ⟨g, 0, rfl, ?_, fun k hk r hr => ?_⟩, fun B w0 hB h => ?_⟩
    · have h1 := EX1 0 (by omega)
      have h2 := World.isSome_setCells g zs ((m - 1) * 5) _ ⟨g, 0, none⟩ h1
      obtain ⟨u, hu⟩ := Option.isSome_iff_exists.1 h2
      exact World.block_lt_of_cell? _ _ hu
    · rw [Nat.zero_add]
      have h5 : k * 5 + r < (m - 1) * 5 := by omega
      rw [World.cell?_setCells_out g zs ((m - 1) * 5) _ ⟨g, k * 5 + r, none⟩ (fun _ _ => Or.inl h5)]
      by_cases hki : k < i
      · rw [World.cell?_setCells_out g news (i * 5) _ ⟨g, k * 5 + r, none⟩ (fun _ _ => Or.inl (by show k * 5 + r < i * 5; omega))]
        have e : cnC (woC l i) k r = cnC l k r := by unfold cnC woC; rw [if_pos hki]
        rw [e]
        exact CELL k r (by omega) hr
      · have hj : (k - i) * 5 + r < news.length := by rw [NL]; omega
        have := World.cell?_setCells_in g news (i * 5) w.drew (fun j hj' => EX _ (by rw [NL] at hj'; omega)) ((k - i) * 5 + r) hj
        rw [show i * 5 + ((k - i) * 5 + r) = k * 5 + r by omega] at this
        rw [this]
        have h1 := NG (k - i) r (by omega) hr
        rw [List.getElem?_eq_getElem hj] at h1
        have e : cnC (woC l i) k r = cnC l (k - i + (i + 1)) r := by unfold cnC woC; rw [if_neg hki, show k - i + (i + 1) = k + 1 by omega]
        rw [e]
        exact h1
    · have hgB : B ≤ g := Nat.le_trans hB hbg
      refine below_setCells hgB zs _ _ (below_setCells hgB news _ _ ?_)
      exact ⟨h.os, h.tape, h.output, h.size, h.block⟩
  obtain ⟨it, i1, i2, i3, i4⟩ := info_partsU info_cnB
  have zrun : ∀ W, (zeroValue 40).run Try.prog W = .ok (.agg #[.int .i64 0, .int .i64 0, .int .i64 0, .int .i64 0, .int .i64 0]) W := Try.zeroValue40
  have CLR : Hid (∀ ty c, (Builtin.clear_ #[22] ty #[.slice (some ⟨g, (m - 1) * 5, none⟩) 1 c]).run Try.prog (w.drew.setCells g (i * 5) news) = .ok (.tuple #[]) ((w.drew.setCells g (i * 5) news).setCells g ((m - 1) * 5) zs)) := fun ty c =>
    run_clear_one (P := Try.prog) _ 22 40 ty (.agg #[.int .i64 0, .int .i64 0, .int .i64 0, .int .i64 0, .int .i64 0]) zs Try.underlying22 zrun (by rw [hzs]; kernel_rfl) Z1 g ((m - 1) * 5) c (fun j hj => EX1 _ (by rw [ZL] at hj; omega)) (fun j _ => FZ1 _)
  have LAW : Hid (∀ (R : Value → World → Prop) (ev : Operand → Value) (oo : Oper) (ad : Addr) (cc : Nat), oo.op = .call { callee := .builtin .append, args := #[.tmp 22, .tmp 25], argTypes := #[22, 22] } → ev (.tmp 22) = .slice (some ⟨g, 0, none⟩) i cap → ev (.tmp 25) = .slice (some ad) (m - (i + 1)) cc → (∀ j u, news[j]? = some u → w.drew.cell? (ad.add j) = some u) → R (.slice (some ⟨g, 0, none⟩) (i + (m - (i + 1))) cap) (w.drew.setCells g (i * 5) news) → does Try.prog oo ev w.drew R) := fun R ev oo ad cc ho h1 h2 h3 h4 =>
    does_room w.drew (.tmp 22) (.tmp 25) 22 ho 40 it 5 Try.underlying22 i1 i3 g 0 i cap h1 ad (m - (i + 1)) cc news h2 NL h3 N1 (by omega) (fun j hj => by rw [Nat.zero_add]; exact EX _ (by rw [NL] at hj; omega)) (fun j _ => FZ _) (by rw [Nat.zero_add]; exact h4)
  have SRC : Hid (∀ j u, news[j]? = some u → w.drew.cell? ((⟨g, (i + 1) * 5, none⟩ : Addr).add j) = some u) := fun j u hj => by
    rw [hnews] at hj
    obtain ⟨k, r, hk, hr, rfl, rfl⟩ := flat_at hj
    rw [addr_off]
    have := CELL (k + (i + 1)) r (by omega) hr
    rw [show (i + 1) * 5 + (k * 5 + r) = (k + (i + 1)) * 5 + r by omega]
    exact this
  have SRC0 : Hid (m = i + 1 → ∀ j u, news[j]? = some u → w.drew.cell? ((⟨g, 0, none⟩ : Addr).add j) = some u) := fun h j u hj => by
    have : news = [] := List.length_eq_zero_iff.1 (by rw [NL]; omega)
    rw [this] at hj
    simp at hj
  clear hO CELL EX FZ NG N1 EX1 FZ1 Z1 hg ht hcs hnews hzs ZL NL zrun i1 i2 i3 i4 it hbg hcm
  have hz1 : ((i : Int) == (i : Int) + 1) = false := by
    have : ¬ ((i : Int) = (i : Int) + 1) := by omega
    simpa using this
  have hic : i ≤ cap := by omega
  have hjc : i + 1 ≤ cap := by omega
  have him : i + 1 ≤ m := by omega
  have wi : IntKind.i64.wrap ((i : Int) + 1) = (i : Int) + 1 := wr (by omega) (by omega)
  have em : i + (m - (i + 1)) = m - 1 := by omega
  have em2 : m - (m - 1) = 1 := by omega
  have hmc1 : m - 1 ≤ cap := by omega
  have hnc : ¬ cap = m - 1 := by omega
  have hm1 : m - 1 ≤ m := by omega
  have ti : ((i : Int) + 1).toNat = i + 1 := by omega
  have zi0 : (0 : Int) ≤ (i : Int) + 1 := by omega
  have zi1 : (i : Int) + 1 ≤ (m : Int) := by omega
  have zi2 : (i : Int) ≤ (cap : Int) := by omega
  have zi3 : (m : Int) ≤ (cap : Int) := by omega
  have zi4 : (i : Int) + 1 ≤ (cap : Int) := by omega
  have zi5 : ¬ (i : Int) + 1 < 0 := by omega
  have zi6 : (i : Int) ≤ (i : Int) + 1 := by omega
  go_enter Try.func32, Try.ntmps32
  by_cases hcap : cap = i + 1
  · subst hcap
    go_wp2_with fail
    refine MJ.wp_region_chain (fun _ => True) [6, 7] [(26, 6), (0, 7)] (dlSt w g i m (i + 1) news) (by kernel_rfl) (by kernel_rfl) (by simp) ?h0 (fun _ _ _ _ => trivial) ?_
    case h0 => rfl
    repeat (refine MJ.lex_calm rfl (by rfl) (fun K hK => ?_); apply Exists.intro; refine ⟨fun W' hW => ?_, ?_⟩; (dsimp only at hW; go_simp; exact rfl); go_simp; refine hK _ ?_; clear hK K)
    refine MJ.lex_chain 0 rfl (by kernel_rfl) rfl ?_ ?_
    · rintro vs W rfl
      refine LAW.out _ _ _ ⟨g, 0, none⟩ 0 rfl rfl (by rw [show m - (i + 1) = 0 by omega]; rfl) (SRC0.out (by omega)) ?_
      exact ⟨by rw [em], rfl, fun v h => by cases h⟩
    repeat (refine MJ.lex_calm rfl (by rfl) (fun K hK => ?_); apply Exists.intro; refine ⟨fun W' hW => ?_, ?_⟩; (dsimp only at hW; go_simp; exact rfl); go_simp; refine hK _ ?_; clear hK K)
    refine MJ.lex_chain 1 rfl (by kernel_rfl) rfl ?_ ?_
    · rintro vs W ⟨e, e2, _⟩
      have FN : Hid (dlSt w g i m (i + 1) news (MJ.valsOf [6, 7] vs 1 ++ [vs 6]) W) := ⟨e, e2, fun v h => by injection h with h _; exact h.symm⟩
      clear e e2
      simp [go_sem, evS, List.lookup]
      exact FN.out
    refine MJ.lex_nil ?_
    rintro vs W ⟨e, rfl, e2⟩
    have e2 := e2 _ rfl
    replace e : vs 6 = .slice (some ⟨g, 0, none⟩) (m - 1) (i + 1) := e
    replace e2 : vs 7 = vs 6 := e2
    rw [e] at e2
    simp only [fillS, List.foldl_cons, List.foldl_nil, e, e2]
    clear e e2 LAW SRC SRC0
    have CL := CLR.out
    go_wp2_with fail
    go_ret
    exact ⟨_, _, rfl, by omega, FIN.out m (by omega)⟩
  · go_wp2_with fail
    refine MJ.wp_region_chain (fun _ => True) [6, 7] [(26, 6), (0, 7)] (dlSt w g i m cap news) (by kernel_rfl) (by kernel_rfl) (by simp) ?h0 (fun _ _ _ _ => trivial) ?_
    case h0 => rfl
    repeat (refine MJ.lex_calm rfl (by rfl) (fun K hK => ?_); apply Exists.intro; refine ⟨fun W' hW => ?_, ?_⟩; (dsimp only at hW; go_simp; exact rfl); go_simp; refine hK _ ?_; clear hK K)
    refine MJ.lex_chain 0 rfl (by kernel_rfl) rfl ?_ ?_
    · rintro vs W rfl
      refine LAW.out _ _ _ ⟨g, (i + 1) * 5, none⟩ (cap - (i + 1)) rfl rfl rfl SRC.out ?_
      exact ⟨by rw [em], rfl, fun v h => by cases h⟩
    repeat (refine MJ.lex_calm rfl (by rfl) (fun K hK => ?_); apply Exists.intro; refine ⟨fun W' hW => ?_, ?_⟩; (dsimp only at hW; go_simp; exact rfl); go_simp; refine hK _ ?_; clear hK K)
    refine MJ.lex_chain 1 rfl (by kernel_rfl) rfl ?_ ?_
    · rintro vs W ⟨e, e2, _⟩
      have FN : Hid (dlSt w g i m cap news (MJ.valsOf [6, 7] vs 1 ++ [vs 6]) W) := ⟨e, e2, fun v h => by injection h with h _; exact h.symm⟩
      clear e e2
      simp [go_sem, evS, List.lookup]
      exact FN.out
    refine MJ.lex_nil ?_
    rintro vs W ⟨e, rfl, e2⟩
    have e2 := e2 _ rfl
    replace e : vs 6 = .slice (some ⟨g, 0, none⟩) (m - 1) cap := e
    replace e2 : vs 7 = vs 6 := e2
    rw [e] at e2
    simp only [fillS, List.foldl_cons, List.foldl_nil, e, e2]
    clear e e2 LAW SRC SRC0
    have CL := CLR.out
    go_wp2_with fail
    go_ret
    exact ⟨_, _, rfl, by omega, FIN.out m (by omega)⟩
end Go.Proofs.Ytdoncogkepopiaa
