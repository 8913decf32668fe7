/- What topsByKey of package scroll returns, at rows whose keys are strings; no condition but on sizes. -/
import Derived.Test.YtbmkamnjjfmdiaaScPb
import Derived.Maps.OwnOps
import Derived.Maps.OwnSet
import Derived.Carry
namespace Go.Proofs.Ytbmkamnjjfmdiaa
open Go.RowKit Go.Sort Go.Maps
set_option linter.unusedVariables false
set_option linter.unusedSimpArgs false

theorem eqK_iff {a b : ByteArray} : eqK a b = true ↔ a = b := by
  unfold eqK
  rw [beq_iff_eq, ByteArray.toList_eq, ByteArray.toList_eq]
  exact ⟨fun h => Go.WideShapes.bytes_inj h, fun h => by rw [h]⟩
theorem eqK_no {a b : ByteArray} (h : a ≠ b) : eqK a b = false := by
  cases q : eqK a b with
  | false => rfl
  | true => exact absurd (eqK_iff.1 q) h
section
variable {k : Nat} {l : Nat → Stp} {s : ByteArray}
theorem ixF_le : ixF k l s ≤ k := by
  have := (fsF_spec (P := fun j => eqK (l j).k s) (d := k) (a := 0)).2.1
  unfold ixF; omega
theorem ixF_no (j : Nat) (hj : j < ixF k l s) : (l j).k ≠ s := by
  have := (fsF_spec (P := fun j => eqK (l j).k s) (d := k) (a := 0)).2.2.1 j (Nat.zero_le _) hj
  intro e
  rw [eqK_iff.2 e] at this
  exact Bool.noConfusion this
theorem ixF_yes (h : ixF k l s < k) : (l (ixF k l s)).k = s := by
  rcases (fsF_spec (P := fun j => eqK (l j).k s) (d := k) (a := 0)).2.2.2 with q | q
  · exfalso; unfold ixF at h; omega
  · exact eqK_iff.1 q
theorem ixF_succ_lt (h : ixF k l s < k) : ixF (k + 1) l s = ixF k l s :=
  fsF_eq (Nat.zero_le _) (by omega) (fun j _ hj => eqK_no (ixF_no j hj)) (Or.inr (eqK_iff.2 (ixF_yes h)))
theorem ixF_succ_eq (h : ¬ ixF k l s < k) (e : (l k).k = s) : ixF (k + 1) l s = k := by
  have h0 := ixF_le (k := k) (l := l) (s := s)
  exact fsF_eq (Nat.zero_le _) (by omega) (fun j _ hj => eqK_no (ixF_no (k := k) j (by omega))) (Or.inr (eqK_iff.2 e))
theorem ixF_succ_no (h : ¬ ixF k l s < k) (e : (l k).k ≠ s) : ixF (k + 1) l s = k + 1 := by
  have h0 := ixF_le (k := k) (l := l) (s := s)
  exact fsF_eq (Nat.zero_le _) (by omega) (fun j _ hj => by
    by_cases q : j = k
    · subst q; exact eqK_no e
    · exact eqK_no (ixF_no (k := k) j (by omega))) (Or.inl (by omega))
end
theorem ownsMap_same {w w' : World} {P : Program} {k : TypeId} {R : Value → Option (DataW Unit × List MemPlace)} {b n : Nat} {D : DataW Unit} (h : w.ownsMap P k R b n D) (g : w'.heap[b]? = w.heap[b]?) : w'.ownsMap P k R b n D := by
  obtain ⟨es, cl, h1, h2⟩ := h; exact ⟨es, cl, g.trans h1, h2⟩
theorem key_str : Keyed Try.prog 9 := string_keyed Try.underlying9
theorem zero_sc (w : World) : (zeroValue 3).run Try.prog w = .ok (.int .i64 0) w := by kernel_rfl
theorem run_makeMapH (x : Int) (w : World) : (Instr.makeMap 50 (some (.int .i64 x))).run Try.prog w = .ok (.map (some w.heap.size)) (w.alloc (.map #[] 0)) := by
  simp [Instr.makeMap, run_underlying Try.underlying50, asInt, Result.andThen]
  rfl
noncomputable abbrev RI : Value → Option (DataW Unit × List MemPlace) := plainElem Try.prog 3
/-- Block b is a map from the keys of the first k rows to the tops of the first rows with them. -/
def TM (w : World) (b k : Nat) (l : Nat → Stp) : Prop := ∃ D : DataW Unit, w.ownsMap Try.prog 9 RI b k D ∧ IsMap D ∧ ∀ s : ByteArray, has D (.string s.data.toList) = decide (ixF k l s < k) ∧ (ixF k l s < k → ∀ z, D.atKey (.string s.data.toList) z = .lit (.int .i64 (topF l (ixF k l s))))
section
variable {w w' : World} {b k : Nat} {l : Nat → Stp}
theorem TM.lt (h : TM w b k l) : b < w.heap.size := by obtain ⟨D, h, _⟩ := h; exact h.lt
theorem TM.same (h : TM w b k l) (g : w'.heap[b]? = w.heap[b]?) : TM w' b k l := by
  obtain ⟨D, h1, h2⟩ := h
  exact ⟨D, ownsMap_same h1 g, h2⟩
theorem TM.below (h : TM w b k l) (hB : Below w.heap.size w w') : TM w' b k l := h.same (hB.block b h.lt)
theorem TM.alloc (h : TM w b k l) (o : Obj) : TM (w.alloc o) b k l := h.below ((Below.refl _ _).alloc (Nat.le_refl _) o)
theorem TM.made (w : World) (l : Nat → Stp) : TM (w.alloc (.map #[] 0)) w.heap.size 0 l :=
  ⟨_, World.ownsMap_made w _ _ _, isMap_empty, fun s => ⟨rfl, fun h => absurd h (Nat.not_lt_zero _)⟩⟩
theorem TM.skip (h : TM w b k l) (hi : ixF k l (l k).k < k) : TM w b (k + 1) l := by
  obtain ⟨D, h1, h2, h3⟩ := h
  refine ⟨D, h1.mono (Nat.le_succ _), h2, fun s => ?_⟩
  obtain ⟨q1, q2⟩ := h3 s
  by_cases hs : ixF k l s < k
  · rw [ixF_succ_lt hs, q1, decide_eq_true hs, decide_eq_true (by omega)]
    exact ⟨rfl, fun _ => q2 hs⟩
  · have e : (l k).k ≠ s := fun e => by rw [e] at hi; exact hs hi
    rw [ixF_succ_no hs e, q1, decide_eq_false hs, decide_eq_false (by omega)]
    exact ⟨rfl, fun h => absurd h (by omega)⟩
end
theorem len_ok {s : ByteArray} (h : s.size ≤ 9223372036854775807) : s.size ≤ maxLen := by unfold maxLen; omega
theorem wpList_tm_look (w : World) {ops : Array Oper} {rest : List Oper} {o : Oper} {a : Act} {Q : Exit → Act → World → Prop} (hg : o.guard = none) (m x : Operand) (hop : o.op = Op.lookup 50 m x true)
    (b k : Nat) (l : Nat → Stp) (H : TM w b k l) (hm : a.eval m = .map (some b)) (s : ByteArray) (hx : a.eval x = .string s) (hs : s.size ≤ 9223372036854775807)
    (hK : ∀ c : Int, (ixF k l s < k → c = topF l (ixF k l s)) → wpList Try.prog ops Q rest (a.put o.dst (.tuple #[.int .i64 c, .bool (decide (ixF k l s < k))])) w) : wpList Try.prog ops Q (o :: rest) a w := by
  obtain ⟨D, H1, H2, H3⟩ := H
  obtain ⟨q1, q2⟩ := H3 s
  refine wpList_lookup_own_ok_int w hg m x _ hop _ _ .i64 key_str Try.underlying50 Try.underlying3 (zero_sc w) b k D hm H1 (.string s) (.string s.data.toList) hx (Go.WideMaps.keyOf_string_mk Try.underlying9 (len_ok hs)) ?_
  intro c hat _
  rw [q1]
  refine hK c fun h => ?_
  rw [q2 h] at hat
  simpa using hat.symm
theorem wpList_tm_store (w : World) {ops : Array Oper} {rest : List Oper} {o : Oper} {a : Act} {Q : Exit → Act → World → Prop} (hg : o.guard = none) (m x v : Operand) (hop : o.op = Op.mapUpdate 50 m x v)
    (b k : Nat) (l : Nat → Stp) (H : TM w b k l) (hn : k ≤ 10000) (hm : a.eval m = .map (some b)) (s : ByteArray) (t : Int) (hx : a.eval x = .string s) (hs : s.size ≤ 9223372036854775807) (hv : a.eval v = .int .i64 t)
    (es : (l k).k = s) (et : topF l k = t) (hwf : -9223372036854775808 ≤ t ∧ t ≤ 9223372036854775807) (hab : ¬ ixF k l s < k)
    (hK : ∀ w', TM w' b (k + 1) l → w.grownBy w' (some b) → wpList Try.prog ops Q rest (a.put o.dst undef) w') : wpList Try.prog ops Q (o :: rest) a w := by
  obtain ⟨D, H1, H2, H3⟩ := H
  have hkey := Go.WideMaps.keyOf_string_mk Try.underlying9 (len_ok hs)
  refine wpList_mapUpdate_own w hg m x v _ hop _ _ key_str Try.underlying50 _ b k D hm H1 (by unfold maxLen; omega) (.string s) (.int .i64 t) (.string s.data.toList) hx hv hkey _ [] (plainElem_int Try.underlying3 (WalkArith.wf_i64 (by omega))) ?_
  intro w' h1 hgr
  refine hK w' ⟨_, h1, H2.put _ _, fun s' => ?_⟩ hgr
  by_cases e : s = s'
  · subst e
    rw [has_put_same H2 (key_str.key hkey), ixF_succ_eq hab es, decide_eq_true (by omega)]
    exact ⟨rfl, fun _ z => by rw [atKey_put_same H2 (key_str.key hkey), et]⟩
  · have ne : (Lit.string s'.data.toList) ≠ (Lit.string s.data.toList) := by
      intro h
      simp only [Lit.string.injEq] at h
      exact e (Go.WideShapes.bytes_inj h.symm)
    obtain ⟨q1, q2⟩ := H3 s'
    rw [has_put_other ne, q1]
    by_cases hs' : ixF k l s' < k
    · rw [ixF_succ_lt hs', decide_eq_true hs', decide_eq_true (by omega)]
      exact ⟨rfl, fun _ z => by rw [atKey_put_other ne, q2 hs']⟩
    · rw [ixF_succ_no hs' (by rw [es]; exact e), decide_eq_false hs', decide_eq_false (by omega)]
      exact ⟨rfl, fun h => absurd h (by omega)⟩
set_option maxHeartbeats 8000000 in
set_option maxRecDepth 100000 in
theorem ptk_any (p : Option Addr) (n c : Nat) (l : Nat → Stp) (w : World) (hp : SRow w p n 2 (stC l)) (hr : rowsB n l = true) (hk : ∀ i, i < n → (l i).k.size ≤ 9223372036854775807) :
    Calls Try.prog 31 #[.slice p n c] w fun e w' => ∃ b, e = .returned (.map (some b)) ∧ TM w' b n l ∧ Below w.heap.size w w' := by
  have hmm := run_makeMapH (n : Int)
  have hn := (rows_iff.1 hr).1
  have HP := hide hp
  have SZ := hide hk
  have TB : Hid (∀ i, i ≤ n → 0 ≤ topF l i ∧ topF l i ≤ 10995116277760000) := fun i hi => top_big hr hi
  obtain ⟨mb, hmb⟩ : ∃ mb, mb = w.heap.size := ⟨_, rfl⟩
  have MM : Hid (TM (w.alloc (.map #[] 0)) mb 0 l) := by rw [hmb]; exact TM.made w l
  have BB : Hid (Below w.heap.size w (w.alloc (.map #[] 0))) := (Below.refl _ _).alloc (Nat.le_refl _) _
  have HB : Hid (w.heap.size ≤ mb) := by show _ ≤ _; omega
  clear hp hr hk
  go_enter Try.func31, Try.ntmps31
  go_wp2_with fail
  clear hmm
  rw [← hmb]
  clear hmb
  generalize w.alloc (.map #[] 0) = w1 at *
  go_loopg [4, 14] (n + 1) (fun g1 vt vk wr => ∃ k : Nat, vt = .int .i64 (topF l k) ∧ vk = .int .i64 (k : Int) ∧ k ≤ n ∧ n - k < g1 ∧ Hid (TM wr mb k l) ∧ Hid (Below w.heap.size w wr))
  case atStart => exact ⟨0, by first | rfl | go_num, by go_num, by omega, by omega, MM, BB⟩
  case round =>
    clear MM BB
    obtain ⟨wo, rfl⟩ : ∃ wo : World, wo = wr := ⟨_, rfl⟩
    obtain ⟨k, rfl, rfl, hk, hg, MM, BB⟩ := hrel
    by_cases hlt : k < n
    case neg =>
      have hltz : ¬ (k : Int) < (n : Int) := by omega
      obtain rfl : n = k := by omega
      clear HP SZ TB
      generalize topF l n = tn at *
      go_wp2_with fail
      go_ret
      exact ⟨mb, rfl, MM.out, BB.out⟩
    have hltz : (k : Int) < (n : Int) := by omega
    have hk0 : (0 : Int) ≤ (k : Int) := by omega
    obtain ⟨b, off, rfl, hb, hc⟩ := (HP.out.below BB.out) (by omega)
    have c0 : wo.cell? ⟨b, off + k * 2, none⟩ = some (.string (l k).k) := hc k hlt 0 (by decide)
    have c1 : wo.cell? ⟨b, off + k * 2 + 1, none⟩ = some (.int .i64 (l k).h) := hc k hlt 1 (by decide)
    have hsz := SZ.out k hlt
    have TS : Hid (topF l k + (l k).h = topF l (k + 1)) := rfl
    have tb := TB.out (k + 1) (by omega)
    rw [top_succ] at tb
    obtain ⟨tb1, tb2⟩ := tb
    have wt : IntKind.i64.wrap (topF l k + (l k).h) = topF l k + (l k).h := wr (by omega) (by omega)
    have ta := TB.out k (by omega)
    have MA : Hid (∀ o, TM (wo.alloc o) mb k l) := fun o => MM.out.alloc o
    have BA : Hid (∀ o, Below w.heap.size w (wo.alloc o)) := fun o => BB.out.alloc BB.out.size o
    have SK : Hid (∀ o, ixF k l (l k).k < k → TM (wo.alloc o) mb (k + 1) l) := fun o h => (MA.out o).skip h
    have EK : Hid (∀ s t, s = (l k).k → t = topF l k → (l k).k = s ∧ topF l k = t) := fun s t h1 h2 => ⟨h1.symm, h2.symm⟩
    have NE : Hid (mb ≠ wo.heap.size) := by show _ ≠ _; have := MM.out.lt; omega
    clear hc hb MM BB TB SZ
    by_cases hd : ixF k l (l k).k < k
    · have dd : decide (ixF k l (l k).k < k) = true := decide_eq_true hd
      have M2 := hide (fun o => SK.out o hd)
      clear EK SK NE hd
      generalize topF l k = tk at *
      generalize (l k).h = hk' at *
      generalize (l k).k = ky at *
      go_wp2_with (at_lookup; refine wpList_tm_look _ rfl _ _ rfl mb k l (MA.out _) rfl ky rfl hsz ?_; intro cc hcc; rw [dd]; clear hcc)
      go_wp2_with fail
      go_roundg (n - k)
      case measure => exact hg
      case rel => exact ⟨k + 1, by rw [← TS.out], by go_num, by omega, by omega, M2.out _, BA.out _⟩
    · have dd : decide (ixF k l (l k).k < k) = false := decide_eq_false hd
      have EK2 := hide (EK.out _ _ rfl rfl)
      have HD := hide hd
      clear EK SK hd
      obtain ⟨ky, hky⟩ : ∃ ky, ky = (l k).k := ⟨_, rfl⟩
      obtain ⟨tk, htk⟩ : ∃ tk, tk = topF l k := ⟨_, rfl⟩
      have ek : Hid ((l k).k = ky) := hky.symm
      have et : Hid (topF l k = tk) := htk.symm
      rw [← hky] at c0 hsz dd HD
      rw [← htk] at TS wt ta tb1 tb2 ⊢
      clear hky htk EK2
      generalize (l k).h = hk' at *
      go_wp2_with (first | (at_lookup; refine wpList_tm_look _ rfl _ _ rfl mb k l (MA.out _) rfl ky rfl hsz ?_; intro cc hcc; rw [dd]; clear hcc) | (at_mapUpdate; refine wpList_tm_store _ rfl _ _ _ rfl mb k l (MA.out _) (by omega) rfl ky tk rfl hsz rfl ek.out et.out (by omega) HD.out ?_))
      intro w5 M5 g5
      have BT5 : Hid (Blk w5 wo.heap.size 38 [.string ky, .int .i64 hk']) := (g5.block _ (by rw [World.size_alloc]; omega) (fun e => NE.out (by injection e with e; exact e.symm))).trans (Blk.new (W := wo) (T := 38) (vs := [.string ky, .int .i64 hk']) rfl)
      have B5 : Hid (Below w.heap.size w w5) := (BA.out _).grown g5 (BA.out _).size (fun j hj => by injection hj with hj; rw [← hj]; exact HB.out)
      have M6 := hide M5
      clear M5 g5 BA MA NE c0 c1
      have t1 := BT5.out.cell 1 rfl
      go_wp2_with fail
      go_roundg (n - k)
      case measure => exact hg
      case rel => exact ⟨k + 1, by rw [← TS.out], by go_num, by omega, by omega, M6.out, B5.out⟩
end Go.Proofs.Ytbmkamnjjfmdiaa
