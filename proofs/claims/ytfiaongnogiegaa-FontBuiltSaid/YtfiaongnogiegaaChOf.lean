/- What the program's table of classes returns for every rune; no condition but that the argument is a rune's number. -/
import Derived.Test.YtfiaongnogiegaaChTab
namespace Go.Proofs.Ytfiaongnogiegaa
open Go.RowKit Go.Sort Go.Great
set_option linter.unusedSimpArgs false
set_option linter.unusedVariables false

theorem Grew.setRow {a w : World} (h : Grew a w) {g : Nat} (hg : a.heap.size ≤ g) (cs : Array Value) : Grew a (w.setRow g cs) :=
  h.trans' ⟨by simp [World.setRow], rfl, rfl, rfl, rfl⟩ fun k hk => setRow_other w g k cs (by omega)
theorem Blk.setRow {W : World} {b : Nat} {T : TypeId} {vs : List Value} (h : Blk W b T vs) (vs' : List Value) : Blk (W.setRow b vs'.toArray) b T vs' := setRow_heap W b _ _ T (0, 0) h

def partOps (T : TypeId) (f : FuncId) (q s : Nat) (p : String) : List Oper :=
  [{ dst := some s, op := .call { callee := .value (.func f), args := #[], argTypes := #[] }, type := T, pos := p, after := #[], guard := none },
   { dst := some q, op := .alloc T, type := 0, pos := p, after := #[], guard := none },
   { dst := none, op := .store T (.tmp q) (.tmp s), type := 0, pos := p, after := #[{ on := 1, ground := .data }, { on := 0, ground := .data }, { on := 0, ground := .chain }, { on := 0, ground := .phase }, { on := 1, ground := .phase }], guard := none }]
def findOps (T : TypeId) (q s : Nat) (p : String) : List Oper :=
  [{ dst := some (s + 1), op := .slice T (.tmp q) none none none, type := 83, pos := p, after := #[], guard := none },
   { dst := some (s + 2), op := .move (.tmp 0), type := 21, pos := p, after := #[], guard := none },
   { dst := some (s + 3), op := .call { callee := .value (.func 64), args := #[.tmp (s + 1), .tmp (s + 2)], argTypes := #[83, 21] }, type := 77, pos := p, after := #[{ on := 0, ground := .data }, { on := 1, ground := .data }], guard := none },
   { dst := none, op := .store 77 (.tmp 2) (.tmp (s + 3)), type := 0, pos := p, after := #[{ on := 2, ground := .data }, { on := 2, ground := .chain }, { on := 0, ground := .phase }, { on := 1, ground := .phase }, { on := 2, ground := .phase }], guard := none }]
def partCode (T : TypeId) (f : FuncId) (q s id : Nat) (p p2 : String) : Code :=
  .seq (.region id (partOps T f q s p).toArray false) (.seq (.region (id + 1) (findOps T q s p2).toArray false) .ret)

/-- What is known of a part: its function, its type, its rows. -/
structure Part (f : FuncId) (T : TypeId) (rows : List Rw) : Prop where
  call : ∀ w, Calls Try.prog f #[] w fun e w' => e = .returned (tabV rows) ∧ Grew w w'
  enters : ∀ w, (callFunc f #[]).run Try.prog w = .ok (.enter f #[]) w
  info : infoOk T rows
  under : Try.prog.underlying T = some (.array rows.length 77)
  len : rows.length ≤ 1000
  small : ∀ x ∈ rows, -2147483648 ≤ x.f ∧ x.f ≤ 2147483647 ∧ -2147483648 ≤ x.z ∧ x.z ≤ 2147483647
theorem Part.size {f : FuncId} {T : TypeId} {rows : List Rw} (h : Part f T rows) : (Try.prog.info? T).map (·.size) = some (7 * rows.length) := by
  have hi := h.info
  unfold infoOk at hi
  cases h : Try.prog.info? T with
  | none => simp [h] at hi
  | some i => rw [h] at hi; simp at hi; simp [hi]

theorem partCode_wp {f : FuncId} {T : TypeId} {rows : List Rw} (hP : Part f T rows) {n b : Nat} {r : Int} {Q : Exit → Act → World → Prop} (q s id : Nat) (p p2 : String) (a : Act) (w W : World)
    (hr : -2147483648 ≤ r ∧ r ≤ 2147483647) (hq : 2 < q) (hqs : q < s) (hs : s + 3 < n) (hf : Fr n r b a) (hW : Blk W b 77 Rw.zero.vs) (hg : Grew w W) (hb : w.heap.size ≤ b)
    (hQ : ∀ (a' : Act) (W' : World), Fr n r b a' → Blk W' b 77 (findR rows r).vs → Grew w W' → Q .ret a' W') :
    (partCode T f q s id p p2).wp Try.prog Q a W := by
  have hcl : (cellsOfRows rows).toArray.size = 7 * rows.length := by simp [cells_length]
  have hn : a.tmps.size = n := hf.1
  refine wp_seq (wp_region_list ?_)
  show wpList _ _ _ (partOps T f q s p) _ _
  refine wpList_plain rfl (fun K hK => ?_)
  have E := hP.enters W
  have C := hide (hP.call W)
  go_simp
  clear E
  refine C.out.mono ?_
  rintro e W1 ⟨rfl, G1⟩
  refine hK _ _ ?_
  clear hK K C
  have hf1 := hf.put s (by omega) (tabV rows)
  have hW1 := hW.grew G1
  have hg1 := hg.trans G1
  have v1 : (a.tmps.setIfInBounds s (tabV rows))[s]? = some (tabV rows) := by rw [Array.getElem?_setIfInBounds, if_pos rfl, if_pos (by omega)]
  have d1 := hf.2.2.2
  clear hf hW hg G1
  show wpList _ _ _ _ ⟨a.tmps.setIfInBounds s (tabV rows), a.defers⟩ _
  generalize a.tmps.setIfInBounds s (tabV rows) = t1 at *
  generalize a.defers = df at *
  subst d1
  have hn1 : t1.size = n := hf1.1
  obtain ⟨z, hz, hrun⟩ := alloc_run T rows (Act.eval ⟨t1, []⟩) { dst := some q, op := .alloc T, type := 0, pos := p, after := #[], guard := none } rfl W1 hP.info
  refine wpList_allocTo rfl (some q) rfl _ _ hrun ?_
  have hf2 := hf1.put q (by omega) (.pointer (some ⟨W1.heap.size, 0, none⟩))
  refine wpList_store_row rfl T (.tmp q) (.tmp s) rfl W1.heap.size (cellsOfRows rows).toArray ?_ ?_ T z (heap_alloc_new W1 _) (by rw [hP.size, hcl]) (by rw [hz, hcl]) (by simpa using cells_one rows) ?_
  · simp only [Act.put, Act.eval, Array.getD_eq_getD_getElem?]
    rw [Array.getElem?_setIfInBounds, if_pos rfl, if_pos (by omega)]; rfl
  · simp only [Act.put, Act.eval, Array.getD_eq_getD_getElem?]
    rw [Array.getElem?_setIfInBounds_ne (by omega), v1]; rfl
  rw [World.setRow_alloc_new]
  have hB2 : Blk (W1.alloc (.cells (cellsOfRows rows).toArray T)) W1.heap.size T (cellsOfRows rows) := Blk.new rfl
  have hW2 := hW1.alloc (.cells (cellsOfRows rows).toArray T)
  have hg2 := hg1.alloc (.cells (cellsOfRows rows).toArray T)
  have q2 : (t1.setIfInBounds q (.pointer (some ⟨W1.heap.size, 0, none⟩)))[q]? = some (.pointer (some ⟨W1.heap.size, 0, none⟩)) := by
    rw [Array.getElem?_setIfInBounds, if_pos rfl, if_pos (by omega)]
  show (Code.seq _ _).wp _ _ ⟨t1.setIfInBounds q (.pointer (some ⟨W1.heap.size, 0, none⟩)), []⟩ _
  generalize t1.setIfInBounds q (.pointer (some ⟨W1.heap.size, 0, none⟩)) = t2 at *
  generalize W1.alloc (.cells (cellsOfRows rows).toArray T) = W2 at *
  clear hrun hf1 hW1 hg1 v1
  have hn2 : t2.size = n := hf2.1
  generalize W1.heap.size = pb at *
  refine wp_seq (wp_region_list ?_)
  show wpList _ _ _ (findOps T q s p2) _ _
  have U := hP.under
  have hsz : rows.length < 4611686018427387904 := by have := hP.len; omega
  refine wpList_plain rfl (fun K hK => ?_)
  go_simp
  refine hK _ _ ?_
  clear hK K
  have hf3 := hf2.put (s + 1) (by omega) (.slice (some ⟨pb, 0, none⟩) rows.length rows.length)
  have v3 : (t2.setIfInBounds (s + 1) (.slice (some ⟨pb, 0, none⟩) rows.length rows.length))[s + 1]? = some (.slice (some ⟨pb, 0, none⟩) rows.length rows.length) := by
    rw [Array.getElem?_setIfInBounds, if_pos rfl, if_pos (by omega)]
  have n3 : (t2.setIfInBounds (s + 1) (.slice (some ⟨pb, 0, none⟩) rows.length rows.length)).size = n := hf3.1
  have r3 : (t2.setIfInBounds (s + 1) (.slice (some ⟨pb, 0, none⟩) rows.length rows.length))[0]? = some (.int .i32 r) := hf3.2.1
  dsimp only at hf3
  generalize t2.setIfInBounds (s + 1) _ = t3 at *
  clear q2 hn2 hf2 U hsz
  refine wpList_plain rfl (fun K hK => ?_)
  go_simp
  refine hK _ _ ?_
  clear hK K
  have hf4 := hf3.put (s + 2) (by omega) (.int .i32 r)
  have v4 : (t3.setIfInBounds (s + 2) (.int .i32 r))[s + 1]? = some (.slice (some ⟨pb, 0, none⟩) rows.length rows.length) := by
    rw [Array.getElem?_setIfInBounds_ne (by omega)]; exact v3
  have u4 : (t3.setIfInBounds (s + 2) (.int .i32 r))[s + 2]? = some (.int .i32 r) := by
    rw [Array.getElem?_setIfInBounds, if_pos rfl, if_pos (by omega)]
  have n4 : (t3.setIfInBounds (s + 2) (.int .i32 r)).size = n := hf4.1
  dsimp only at hf4
  generalize t3.setIfInBounds (s + 2) _ = t4 at *
  clear v3 n3 r3 hf3
  have C := hide (find_any rows r pb T W2 hr hP.len hB2 hP.small)
  refine wpList_plain rfl (fun K hK => ?_)
  go_simp
  refine C.out.mono ?_
  rintro e W3 ⟨rfl, G3⟩
  refine hK _ _ ?_
  clear hK K C
  have hf5 := hf4.put (s + 3) (by omega) (findR rows r).v
  have v5 : (t4.setIfInBounds (s + 3) (findR rows r).v)[s + 3]? = some (findR rows r).v := by
    rw [Array.getElem?_setIfInBounds, if_pos rfl, if_pos (by omega)]
  dsimp only at hf5
  show wpList _ _ _ _ ⟨t4.setIfInBounds (s + 3) (findR rows r).v, []⟩ _
  generalize t4.setIfInBounds (s + 3) _ = t5 at *
  refine wpList_store_row rfl 77 (.tmp 2) (.tmp (s + 3)) rfl b (findR rows r).vs.toArray ?_ ?_ 77 Rw.zero.vs.toArray (hW2.grew G3) (by kernel_rfl) rfl (by simp [Value.oneCell']) ?_
  · simp only [Act.eval, Array.getD_eq_getD_getElem?, hf5.2.2.1]; rfl
  · simp only [Act.eval, Array.getD_eq_getD_getElem?, v5]; rfl
  exact wp_ret (hQ _ _ hf5 ((hW2.grew G3).setRow _) ((hg2.trans G3).setRow hb _))

/-- A case of the program's switch: its bound, its part. -/
structure PartD where
  (k : Int) (f : FuncId) (T : TypeId) (rows : List Rw)
def mkP : List String → List PartD → Nat → Nat → Nat → Code
  | _, [], _, _, _ => .skip
  | ps, x :: l, q, s, id => .seq (.region id (testOps s (ps.headD "") ⟨true, x.k, none⟩).toArray false) (.cond (.tmp s) (partCode x.T x.f q (s + 3) (id + 1) (ps.tail.headD "") (ps.tail.tail.headD "")) (mkP ps.tail.tail.tail l (q + 1) (s + 7) (id + 3)))
def lkP : List PartD → Int → Option Rw
  | [], _ => none
  | x :: l, r => if r < x.k then some (findR x.rows r) else lkP l r
theorem mkP_wp {n b : Nat} {r : Int} {Q : Exit → Act → World → Prop} {w W : World} (hr : -2147483648 ≤ r ∧ r ≤ 2147483647)
    (hW : Blk W b 77 Rw.zero.vs) (hg : Grew w W) (hb : w.heap.size ≤ b) : ∀ (ps : List String) (l : List PartD) (q s id : Nat) (a : Act), (∀ x ∈ l, Part x.f x.T x.rows) → 2 < q → q < s → s + 7 * l.length ≤ n → Fr n r b a →
    (∀ (a' : Act) (W' : World) (c : Rw), lkP l r = some c → Fr n r b a' → Blk W' b 77 c.vs → Grew w W' → Q .ret a' W') →
    (∀ (a' : Act), lkP l r = none → Fr n r b a' → Q .normal a' W) →
    (mkP ps l q s id).wp Try.prog Q a W
  | ps, [], q, s, id, a, hp, h0, h1, h2, h3, h4, h5 => wp_skip (h5 a rfl h3)
  | ps, x :: l, q, s, id, a, hp, h0, h1, h2, h3, h4, h5 => by
    simp only [List.length_cons] at h2
    refine wp_seq (test_wp id s _ ⟨true, x.k, none⟩ a W (by omega) (by omega) h3 (by kernel_rfl) hr fun a' hf he => ?_)
    show (Code.cond _ _ _).wp _ _ _ _
    refine wp_cond_split he (fun ht => ?_) (fun ht => ?_)
    · have ht' : r < x.k := by simpa [CaseD.hit] using ht
      refine partCode_wp (hp x (by simp)) q (s + 3) (id + 1) _ _ a' w W hr h0 (by omega) (by omega) hf hW hg hb fun a'' W' hf' hW' hg' => ?_
      exact h4 _ _ _ (by simp only [lkP, if_pos ht']) hf' hW' hg'
    · have ht' : ¬ r < x.k := by simpa [CaseD.hit] using ht
      refine mkP_wp hr hW hg hb ps.tail.tail.tail l (q + 1) (s + 7) (id + 3) a' (fun y hy => hp y (by simp [hy])) (by omega) (by omega) (by omega) hf ?_ ?_
      · intro a'' W' c hc; exact h4 a'' W' c (by simp only [lkP, if_neg ht']; exact hc)
      · intro a'' hc; exact h5 a'' (by simp only [lkP, if_neg ht']; exact hc)

def ofParts : List PartD :=
  [⟨127, 63, 80, basicRows⟩,
   ⟨1424, 65, 84, latinRows⟩,
   ⟨1792, 66, 86, hebrewAndArabicRows⟩,
   ⟨8192, 67, 88, devanagariAndJamoRows⟩,
   ⟨12288, 68, 90, punctuationAndSymbolsRows⟩,
   ⟨65536, 69, 92, ideographsAndFormsRows⟩]
theorem basic_part : Part 63 80 basicRows := ⟨basic_any, fun w => by kernel_rfl, basic_info, by kernel_rfl, by decide, by decide⟩
theorem latin_part : Part 65 84 latinRows := ⟨latin_any, fun w => by kernel_rfl, latin_info, by kernel_rfl, by decide, by decide⟩
theorem hebrewAndArabic_part : Part 66 86 hebrewAndArabicRows := ⟨hebrewAndArabic_any, fun w => by kernel_rfl, hebrewAndArabic_info, by kernel_rfl, by decide, by decide⟩
theorem devanagariAndJamo_part : Part 67 88 devanagariAndJamoRows := ⟨devanagariAndJamo_any, fun w => by kernel_rfl, devanagariAndJamo_info, by kernel_rfl, by decide, by decide⟩
theorem punctuationAndSymbols_part : Part 68 90 punctuationAndSymbolsRows := ⟨punctuationAndSymbols_any, fun w => by kernel_rfl, punctuationAndSymbols_info, by kernel_rfl, by decide, by decide⟩
theorem ideographsAndForms_part : Part 69 92 ideographsAndFormsRows := ⟨ideographsAndForms_any, fun w => by kernel_rfl, ideographsAndForms_info, by kernel_rfl, by decide, by decide⟩
theorem supplementary_part : Part 70 94 supplementaryRows := ⟨supplementary_any, fun w => by kernel_rfl, supplementary_info, by kernel_rfl, by decide, by decide⟩
theorem parts_all : ∀ x ∈ ofParts, Part x.f x.T x.rows := by
  intro x hx
  simp only [ofParts, List.mem_cons, List.not_mem_nil, or_false] at hx
  rcases hx with rfl | rfl | rfl | rfl | rfl | rfl
  · exact basic_part
  · exact latin_part
  · exact hebrewAndArabic_part
  · exact devanagariAndJamo_part
  · exact punctuationAndSymbols_part
  · exact ideographsAndForms_part
end Go.Proofs.Ytfiaongnogiegaa
