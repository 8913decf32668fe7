/- The parts of the program's table of classes, as the functions return them; no condition. -/
import Derived.Test.YtfiaongnogiegaaChFind
import Derived.Great.Walk
import Derived.Deep.WholeRow
namespace Go.Proofs.Ytfiaongnogiegaa
open Go.RowKit Go.Sort Go.Great
set_option linter.unusedSimpArgs false
set_option linter.unusedVariables false

def rowParts (x : Rw) : Array (Nat × Operand) := #[(0, .const (.int .i32 x.f)), (1, .const (.int .i32 x.z)), (2, .const (.int .u8 x.b)), (3, .const (.int .u8 x.w)), (4, .const (.int .u8 x.l)), (5, .const (.int .u8 x.d)), (6, .const (.int .u8 x.j))]
def rowOp (p : String) (s : Nat) (x : Rw) : Oper := { dst := some s, op := .build 77 (rowParts x), type := 77, pos := p, after := #[], guard := none }
def rowsOps (p : String) : Nat → List Rw → List Oper
  | _, [] => []
  | s, x :: l => rowOp p s x :: rowsOps p (s + 1) l
def tabArr (T : TypeId) (n : Nat) (p : String) : Oper := { dst := some (n + 1), op := .build T ((List.range n).map fun i => (i, Operand.tmp (1 + i))).toArray, type := T, pos := p, after := ((List.range n).map fun i => { on := i, ground := .data }).toArray, guard := none }
def tabStore (T : TypeId) (n : Nat) (p : String) : Oper := { dst := none, op := .store T (.tmp 0) (.tmp (n + 1)), type := 0, pos := p, after := #[{ on := n, ground := .data }] ++ ((List.range (n + 1)).map fun i => { on := i, ground := .phase }).toArray, guard := none }
def posAt (c : Code) (i : Nat) : String := ((posL c)[i]?).getD ""
def tabBody (T : TypeId) (p q : String) (rows : List Rw) : Code :=
  .seq (.region 0 #[{ dst := some 0, op := .alloc T, type := 0, pos := q, after := #[], guard := none }] false)
    (.seq (.region 1 (rowsOps p 1 rows ++ [tabArr T rows.length p, tabStore T rows.length p]).toArray false) .ret)

theorem rowOp_run (p : String) (s : Nat) (x : Rw) (ev : Operand → Value) (w : World) (hev : ∀ v, ev (.const v) = v) : (execOp ev (rowOp p s x)).run Try.prog w = .ok (.value x.v) w := by
  unfold rowOp rowParts
  simp [go_sem, hev]
theorem rows_wp {ops rest : List Oper} {Q : Exit → Act → World → Prop} {w : World} (p : String) : ∀ (rows : List Rw) (s : Nat) (a : Act), s + rows.length ≤ a.tmps.size →
    (∀ a' : Act, a'.tmps.size = a.tmps.size → a'.defers = a.defers → (∀ t, t < s → a'.tmps[t]? = a.tmps[t]?) → (∀ j (h : j < rows.length), a'.tmps[s + j]? = some rows[j].v) → wpList Try.prog ops.toArray Q rest a' w) →
    wpList Try.prog ops.toArray Q (rowsOps p s rows ++ rest) a w
  | [], s, a, hs, h => h a rfl rfl (fun _ _ => rfl) (fun j hj => absurd hj (by simp))
  | x :: l, s, a, hs, h => by
    simp only [List.length_cons] at hs
    refine wpList_runTo (o := rowOp p s x) rfl (some s) rfl x.v w (rowOp_run p s x a.eval w fun _ => rfl) ?_
    refine rows_wp p l (s + 1) _ (by simp [Act.put]; omega) fun a' h1 h2 h3 h4 => ?_
    refine h a' (by rw [h1]; simp [Act.put]) (by rw [h2]; rfl) (fun t ht => ?_) (fun j hj => ?_)
    · rw [h3 t (by omega)]; simp only [Act.put]; rw [Array.getElem?_setIfInBounds_ne (by omega)]
    · cases j with
      | zero => rw [Nat.add_zero, h3 s (by omega)]; simp only [Act.put]; rw [Array.getElem?_setIfInBounds]; simp; omega
      | succ j => rw [show s + (j + 1) = s + 1 + j by omega]; exact h4 j (by simpa using hj)

def partsV (rows : List Rw) : List (Nat × Value) := (List.range rows.length).map fun i => (i, (rows[i]?.map Rw.v).getD undef)
abbrev tabV (rows : List Rw) : Value := .agg (cellsOfRows rows).toArray
def infoOk (T : TypeId) (rows : List Rw) : Prop := (Try.prog.info? T).map (fun i => (i.zero.map (·.cells.size), i.size)) = some (some (7 * rows.length), 7 * rows.length)
theorem cells_length : ∀ rows : List Rw, (cellsOfRows rows).length = 7 * rows.length
  | [] => rfl
  | x :: l => by
    have := cells_length l
    simp only [cellsOfRows, List.flatMap_cons, List.length_append, List.length_cons] at *
    rw [this]
    simp only [List.length_nil]
    omega
theorem cells_one : ∀ rows : List Rw, (cellsOfRows rows).all (·.oneCell') = true
  | [] => rfl
  | x :: l => by have := cells_one l; simp only [cellsOfRows, List.flatMap_cons, List.all_append] at *; rw [this]; rfl

theorem alloc_run (T : TypeId) (rows : List Rw) (ev : Operand → Value) (o : Oper) (ho : o.op = .alloc T) (w : World) (hi : infoOk T rows) :
    ∃ z : Array Value, z.size = 7 * rows.length ∧ (execOp ev o).run Try.prog w = .ok (.value (.pointer (some ⟨w.heap.size, 0, none⟩))) (w.alloc (.cells z T)) := by
  unfold infoOk at hi
  cases h : Try.prog.info? T with
  | none => simp [h] at hi
  | some i =>
    rw [h] at hi
    simp only [Option.map_some, Option.some.injEq, Prod.mk.injEq] at hi
    obtain ⟨h1, h2⟩ := hi
    cases hz : i.zero with
    | none => simp [hz] at h1
    | some z =>
      rw [hz] at h1
      refine ⟨z.cells, by simpa using h1, ?_⟩
      simp [execOp, ho, zeroValue, typeInfo, h, hz, newVar, newRow, newObj, go_sem]
      rfl

theorem tab_any {f : FuncId} {fn : Func} (T : TypeId) (p q : String) (rows : List Rw) (w : World) (hf : Try.prog.funcs[f]? = some fn) (hb : fn.body = some (tabBody T p q rows)) (ht : fn.ntmps = rows.length + 2) (hr : fn.results = #[.cell 0 T])
    (hi : infoOk T rows) (hd : ∃ n e, Try.prog.underlying T = some (.array n e)) (hparts : Try.prog.built T (partsV rows) = some (cellsOfRows rows).toArray) :
    Calls Try.prog f #[] w fun e w' => e = .returned (tabV rows) ∧ Grew w w' := by
  refine calls_of_wp hf hb ?_
  rw [ht]
  have hF : (⟨#[] ++ Array.replicate (rows.length + 2 - (#[] : Array Value).size) undef, []⟩ : Act).tmps.size = rows.length + 2 := by simp
  have hD : (⟨#[] ++ Array.replicate (rows.length + 2 - (#[] : Array Value).size) undef, []⟩ : Act).defers = [] := rfl
  generalize (⟨#[] ++ Array.replicate (rows.length + 2 - (#[] : Array Value).size) undef, []⟩ : Act) = a at hF hD ⊢
  obtain ⟨z, hz, hrun⟩ := alloc_run T rows a.eval { dst := some 0, op := .alloc T, type := 0, pos := q, after := #[], guard := none } rfl w hi
  refine wp_seq (wp_region_list (wpList_allocTo (rest := []) rfl (some 0) rfl _ _ hrun ?_))
  have hsz : (Try.prog.info? T).map (·.size) = some (7 * rows.length) := by
    unfold infoOk at hi
    cases h : Try.prog.info? T with
    | none => simp [h] at hi
    | some i => rw [h] at hi; simp at hi; simp [hi]
  have hcl : (cellsOfRows rows).toArray.size = 7 * rows.length := by simp [cells_length]
  refine wp_seq (wp_region_list ?_)
  show wpList _ _ _ (rowsOps p 1 rows ++ [tabArr T rows.length p, tabStore T rows.length p]) _ _
  refine rows_wp p rows 1 _ (by simp [Act.put, hF]; omega) fun a' h1 h2 h3 h4 => ?_
  have hparts' : (((List.range rows.length).map fun i => (i, Operand.tmp (1 + i))).toArray.map fun (i, x) => (i, a'.eval x)).toList = partsV rows := by
    simp only [List.map_toArray, List.map_map, partsV]
    apply List.map_congr_left
    intro i hi
    have hi : i < rows.length := by simpa using hi
    simp only [Function.comp, Act.eval, Array.getD_eq_getD_getElem?, h4 i hi, List.getElem?_eq_getElem hi]
    rfl
  refine wpList_build rfl T _ rfl (by rw [hparts', hparts]; rfl) ?_
  rw [hparts', hparts]
  have e0 : a'.tmps[0]? = some (.pointer (some ⟨w.heap.size, 0, none⟩)) := by
    rw [h3 0 (by omega)]; simp only [Act.put]; rw [Array.getElem?_setIfInBounds]; simp [hF]
  refine wpList_store_row rfl T (.tmp 0) (.tmp (rows.length + 1)) rfl w.heap.size (cellsOfRows rows).toArray ?_ ?_ T z (heap_alloc_new w _) (by rw [hsz, hcl]) (by rw [hz, hcl]) (by simpa using cells_one rows) ?_
  · simp only [Act.put, Act.eval, Array.getD_eq_getD_getElem?, tabArr]
    rw [Array.getElem?_setIfInBounds_ne (by omega), e0]; rfl
  · simp only [Act.put, Act.eval, Array.getD_eq_getD_getElem?, tabArr]
    rw [Array.getElem?_setIfInBounds]
    simp [h1, Act.put, hF]
  · rw [World.setRow_alloc_new]
    obtain ⟨n, e, hu⟩ := hd
    refine wp_ret ?_
    refine bodyPost_ret (R := fun e w' => e = .returned (tabV rows) ∧ Grew w w') (results_cell_row hr _ _ w.heap.size T (cellsOfRows rows).toArray (0, 0) _ ?_ (heap_alloc_new w _) hu rfl (by rw [hsz, hcl])) ?_ ⟨rfl, (Grew.refl w).alloc _⟩
    · simp only [Act.put, tabArr, tabStore, Array.getD_eq_getD_getElem?]
      rw [Array.getElem?_setIfInBounds_ne (by omega), e0]; rfl
    · simp only [Act.put, tabArr, tabStore]
      rw [h2]; exact hD

def basicRows : List Rw :=
  [⟨0, 8, 3, 0, 7, 9, 0⟩,
   ⟨9, 9, 3, 0, 10, 11, 0⟩,
   ⟨10, 10, 2, 1, 3, 10, 0⟩,
   ⟨11, 11, 3, 1, 1, 11, 0⟩,
   ⟨12, 12, 3, 1, 1, 12, 0⟩,
   ⟨13, 13, 1, 1, 2, 10, 0⟩,
   ⟨14, 31, 3, 0, 7, 9, 0⟩,
   ⟨32, 32, 0, 2, 4, 12, 0⟩,
   ⟨33, 33, 0, 0, 15, 13, 0⟩,
   ⟨34, 34, 0, 0, 14, 13, 0⟩,
   ⟨35, 37, 0, 0, 0, 5, 0⟩,
   ⟨38, 38, 0, 0, 0, 13, 0⟩,
   ⟨39, 39, 0, 7, 14, 13, 0⟩,
   ⟨40, 40, 0, 0, 12, 13, 0⟩,
   ⟨41, 41, 0, 0, 13, 13, 0⟩,
   ⟨42, 42, 0, 0, 0, 13, 0⟩,
   ⟨43, 43, 0, 0, 0, 4, 0⟩,
   ⟨44, 44, 0, 6, 16, 7, 0⟩,
   ⟨45, 45, 0, 0, 11, 4, 0⟩,
   ⟨46, 46, 0, 7, 16, 7, 0⟩,
   ⟨47, 47, 0, 0, 10, 7, 0⟩,
   ⟨48, 57, 0, 4, 17, 3, 0⟩,
   ⟨58, 58, 0, 5, 16, 7, 0⟩,
   ⟨59, 59, 0, 6, 16, 13, 0⟩,
   ⟨60, 62, 0, 0, 0, 13, 0⟩,
   ⟨63, 63, 0, 0, 15, 13, 0⟩,
   ⟨64, 64, 0, 0, 0, 13, 0⟩,
   ⟨65, 90, 0, 3, 0, 0, 0⟩,
   ⟨91, 91, 0, 0, 12, 13, 0⟩,
   ⟨92, 92, 0, 0, 0, 13, 0⟩,
   ⟨93, 93, 0, 0, 13, 13, 0⟩,
   ⟨94, 94, 0, 0, 0, 13, 0⟩,
   ⟨95, 95, 0, 8, 0, 13, 0⟩,
   ⟨96, 96, 0, 0, 0, 13, 0⟩,
   ⟨97, 122, 0, 3, 0, 0, 0⟩,
   ⟨123, 123, 0, 0, 12, 13, 0⟩,
   ⟨124, 124, 0, 0, 10, 13, 0⟩,
   ⟨125, 125, 0, 0, 13, 13, 0⟩,
   ⟨126, 126, 0, 0, 0, 13, 0⟩]
def latinRows : List Rw :=
  [⟨127, 132, 3, 0, 7, 9, 0⟩,
   ⟨133, 133, 3, 1, 1, 10, 0⟩,
   ⟨134, 159, 3, 0, 7, 9, 0⟩,
   ⟨160, 160, 0, 0, 9, 7, 0⟩,
   ⟨161, 161, 0, 0, 12, 13, 0⟩,
   ⟨162, 165, 0, 0, 0, 5, 0⟩,
   ⟨166, 169, 0, 0, 0, 13, 0⟩,
   ⟨170, 170, 0, 3, 0, 0, 0⟩,
   ⟨171, 171, 0, 0, 14, 13, 0⟩,
   ⟨172, 172, 0, 0, 0, 13, 0⟩,
   ⟨173, 173, 3, 10, 10, 9, 4⟩,
   ⟨174, 180, 0, 0, 0, 13, 0⟩,
   ⟨181, 181, 0, 3, 0, 0, 0⟩,
   ⟨182, 182, 0, 0, 0, 13, 0⟩,
   ⟨183, 183, 0, 5, 0, 13, 0⟩,
   ⟨184, 185, 0, 0, 0, 13, 0⟩,
   ⟨186, 186, 0, 3, 0, 0, 0⟩,
   ⟨187, 187, 0, 0, 14, 13, 0⟩,
   ⟨188, 191, 0, 0, 0, 13, 0⟩,
   ⟨192, 767, 0, 3, 0, 0, 0⟩,
   ⟨768, 879, 4, 10, 7, 8, 4⟩,
   ⟨880, 1423, 0, 3, 0, 0, 0⟩]
def hebrewAndArabicRows : List Rw :=
  [⟨1424, 1469, 4, 10, 7, 8, 4⟩,
   ⟨1470, 1470, 0, 0, 10, 1, 0⟩,
   ⟨1471, 1479, 4, 10, 7, 8, 4⟩,
   ⟨1488, 1514, 0, 3, 0, 1, 0⟩,
   ⟨1536, 1541, 7, 0, 0, 6, 0⟩,
   ⟨1548, 1548, 0, 6, 16, 7, 0⟩,
   ⟨1552, 1562, 4, 10, 7, 8, 4⟩,
   ⟨1563, 1563, 0, 0, 15, 2, 0⟩,
   ⟨1564, 1564, 3, 10, 7, 2, 4⟩,
   ⟨1567, 1567, 0, 0, 15, 2, 0⟩,
   ⟨1568, 1568, 0, 3, 0, 2, 2⟩,
   ⟨1569, 1569, 0, 3, 0, 2, 0⟩,
   ⟨1570, 1573, 0, 3, 0, 2, 1⟩,
   ⟨1574, 1574, 0, 3, 0, 2, 2⟩,
   ⟨1575, 1575, 0, 3, 0, 2, 1⟩,
   ⟨1576, 1576, 0, 3, 0, 2, 2⟩,
   ⟨1577, 1577, 0, 3, 0, 2, 1⟩,
   ⟨1578, 1582, 0, 3, 0, 2, 2⟩,
   ⟨1583, 1586, 0, 3, 0, 2, 1⟩,
   ⟨1587, 1599, 0, 3, 0, 2, 2⟩,
   ⟨1600, 1600, 0, 3, 0, 2, 3⟩,
   ⟨1601, 1607, 0, 3, 0, 2, 2⟩,
   ⟨1608, 1608, 0, 3, 0, 2, 1⟩,
   ⟨1609, 1610, 0, 3, 0, 2, 2⟩,
   ⟨1611, 1631, 4, 10, 7, 8, 4⟩,
   ⟨1632, 1641, 0, 4, 17, 6, 0⟩,
   ⟨1642, 1642, 0, 0, 0, 5, 0⟩,
   ⟨1643, 1644, 0, 6, 16, 6, 0⟩,
   ⟨1648, 1648, 4, 10, 7, 8, 4⟩,
   ⟨1649, 1655, 0, 3, 0, 2, 1⟩,
   ⟨1656, 1671, 0, 3, 0, 2, 2⟩,
   ⟨1672, 1689, 0, 3, 0, 2, 1⟩,
   ⟨1690, 1727, 0, 3, 0, 2, 2⟩,
   ⟨1728, 1739, 0, 3, 0, 2, 1⟩,
   ⟨1740, 1747, 0, 3, 0, 2, 2⟩,
   ⟨1750, 1756, 4, 10, 7, 8, 4⟩,
   ⟨1776, 1785, 0, 4, 17, 3, 0⟩]
def devanagariAndJamoRows : List Rw :=
  [⟨2304, 2306, 4, 10, 7, 8, 0⟩,
   ⟨2307, 2307, 8, 10, 7, 0, 0⟩,
   ⟨2308, 2361, 0, 3, 0, 0, 0⟩,
   ⟨2364, 2364, 4, 10, 7, 8, 0⟩,
   ⟨2366, 2368, 8, 10, 7, 0, 0⟩,
   ⟨2369, 2376, 4, 10, 7, 8, 0⟩,
   ⟨2377, 2380, 8, 10, 7, 0, 0⟩,
   ⟨2381, 2381, 4, 10, 7, 8, 0⟩,
   ⟨2406, 2415, 0, 4, 17, 0, 0⟩,
   ⟨4352, 4447, 9, 3, 18, 0, 0⟩,
   ⟨4448, 4519, 10, 3, 18, 0, 0⟩,
   ⟨4520, 4607, 11, 3, 18, 0, 0⟩]
def punctuationAndSymbolsRows : List Rw :=
  [⟨8192, 8198, 0, 2, 10, 12, 0⟩,
   ⟨8199, 8199, 0, 0, 9, 12, 0⟩,
   ⟨8200, 8202, 0, 2, 10, 12, 0⟩,
   ⟨8203, 8203, 3, 0, 5, 9, 0⟩,
   ⟨8204, 8204, 4, 10, 7, 9, 0⟩,
   ⟨8205, 8205, 5, 11, 6, 9, 3⟩,
   ⟨8206, 8206, 3, 10, 7, 0, 4⟩,
   ⟨8207, 8207, 3, 10, 7, 1, 4⟩,
   ⟨8208, 8208, 0, 0, 10, 13, 0⟩,
   ⟨8209, 8209, 0, 0, 9, 13, 0⟩,
   ⟨8210, 8212, 0, 0, 10, 13, 0⟩,
   ⟨8213, 8215, 0, 0, 0, 13, 0⟩,
   ⟨8216, 8216, 0, 0, 14, 13, 0⟩,
   ⟨8217, 8217, 0, 7, 14, 13, 0⟩,
   ⟨8218, 8218, 0, 0, 12, 13, 0⟩,
   ⟨8220, 8221, 0, 0, 14, 13, 0⟩,
   ⟨8232, 8232, 3, 1, 1, 12, 0⟩,
   ⟨8233, 8233, 3, 1, 1, 10, 0⟩,
   ⟨8234, 8234, 3, 10, 7, 14, 4⟩,
   ⟨8235, 8235, 3, 10, 7, 16, 4⟩,
   ⟨8236, 8236, 3, 10, 7, 18, 4⟩,
   ⟨8237, 8237, 3, 10, 7, 15, 4⟩,
   ⟨8238, 8238, 3, 10, 7, 17, 4⟩,
   ⟨8240, 8244, 0, 0, 0, 5, 0⟩,
   ⟨8255, 8256, 0, 8, 0, 13, 0⟩,
   ⟨8288, 8288, 3, 10, 8, 9, 4⟩,
   ⟨8294, 8294, 3, 10, 7, 19, 0⟩,
   ⟨8295, 8295, 3, 10, 7, 20, 0⟩,
   ⟨8296, 8296, 3, 10, 7, 21, 0⟩,
   ⟨8297, 8297, 3, 10, 7, 22, 0⟩,
   ⟨8352, 8399, 0, 0, 0, 5, 0⟩,
   ⟨8400, 8432, 4, 10, 7, 8, 4⟩,
   ⟨8592, 8959, 0, 0, 0, 13, 0⟩,
   ⟨9728, 10175, 14, 0, 18, 13, 0⟩]
def ideographsAndFormsRows : List Rw :=
  [⟨12288, 12288, 0, 2, 10, 12, 0⟩,
   ⟨12289, 12290, 0, 0, 13, 13, 0⟩,
   ⟨12293, 12295, 0, 0, 18, 0, 0⟩,
   ⟨12296, 12296, 0, 0, 12, 13, 0⟩,
   ⟨12297, 12297, 0, 0, 13, 13, 0⟩,
   ⟨12298, 12298, 0, 0, 12, 13, 0⟩,
   ⟨12299, 12299, 0, 0, 13, 13, 0⟩,
   ⟨12300, 12300, 0, 0, 12, 13, 0⟩,
   ⟨12301, 12301, 0, 0, 13, 13, 0⟩,
   ⟨12302, 12302, 0, 0, 12, 13, 0⟩,
   ⟨12303, 12303, 0, 0, 13, 13, 0⟩,
   ⟨12304, 12304, 0, 0, 12, 13, 0⟩,
   ⟨12305, 12305, 0, 0, 13, 13, 0⟩,
   ⟨12353, 12438, 0, 0, 18, 0, 0⟩,
   ⟨12441, 12442, 4, 10, 7, 8, 4⟩,
   ⟨12449, 12538, 0, 9, 18, 0, 0⟩,
   ⟨12540, 12540, 0, 9, 18, 0, 0⟩,
   ⟨13312, 40959, 0, 0, 18, 0, 0⟩,
   ⟨64285, 64335, 0, 3, 0, 1, 0⟩,
   ⟨64336, 65023, 0, 3, 0, 2, 0⟩,
   ⟨65024, 65039, 4, 10, 7, 8, 4⟩,
   ⟨65136, 65276, 0, 3, 0, 2, 0⟩,
   ⟨65279, 65279, 3, 10, 8, 9, 4⟩]
def supplementaryRows : List Rw :=
  [⟨127462, 127487, 6, 12, 19, 0, 0⟩,
   ⟨127744, 127994, 14, 0, 18, 13, 0⟩,
   ⟨127995, 127999, 4, 10, 7, 13, 4⟩,
   ⟨128000, 129791, 14, 0, 18, 13, 0⟩,
   ⟨131072, 262141, 0, 0, 18, 0, 0⟩,
   ⟨917760, 917999, 4, 10, 7, 8, 4⟩]

noncomputable def basicBody : Code := Try.f63.body.getD .skip
theorem basic_is : Try.f63.body = some (tabBody 80 (posAt basicBody 1) (posAt basicBody 0) basicRows) := by kernel_rfl
theorem basic_info : infoOk 80 basicRows := by unfold infoOk; kernel_rfl
theorem basic_parts : Try.prog.built 80 (partsV basicRows) = some (cellsOfRows basicRows).toArray := by kernel_rfl
theorem basic_any (w : World) : Calls Try.prog 63 #[] w fun e w' => e = .returned (tabV basicRows) ∧ Grew w w' :=
  tab_any 80 _ _ basicRows w Try.func63 basic_is (by kernel_rfl) (by kernel_rfl) basic_info ⟨39, 77, by kernel_rfl⟩ basic_parts
noncomputable def latinBody : Code := Try.f65.body.getD .skip
theorem latin_is : Try.f65.body = some (tabBody 84 (posAt latinBody 1) (posAt latinBody 0) latinRows) := by kernel_rfl
theorem latin_info : infoOk 84 latinRows := by unfold infoOk; kernel_rfl
theorem latin_parts : Try.prog.built 84 (partsV latinRows) = some (cellsOfRows latinRows).toArray := by kernel_rfl
theorem latin_any (w : World) : Calls Try.prog 65 #[] w fun e w' => e = .returned (tabV latinRows) ∧ Grew w w' :=
  tab_any 84 _ _ latinRows w Try.func65 latin_is (by kernel_rfl) (by kernel_rfl) latin_info ⟨22, 77, by kernel_rfl⟩ latin_parts
noncomputable def hebrewAndArabicBody : Code := Try.f66.body.getD .skip
theorem hebrewAndArabic_is : Try.f66.body = some (tabBody 86 (posAt hebrewAndArabicBody 1) (posAt hebrewAndArabicBody 0) hebrewAndArabicRows) := by kernel_rfl
theorem hebrewAndArabic_info : infoOk 86 hebrewAndArabicRows := by unfold infoOk; kernel_rfl
theorem hebrewAndArabic_parts : Try.prog.built 86 (partsV hebrewAndArabicRows) = some (cellsOfRows hebrewAndArabicRows).toArray := by kernel_rfl
theorem hebrewAndArabic_any (w : World) : Calls Try.prog 66 #[] w fun e w' => e = .returned (tabV hebrewAndArabicRows) ∧ Grew w w' :=
  tab_any 86 _ _ hebrewAndArabicRows w Try.func66 hebrewAndArabic_is (by kernel_rfl) (by kernel_rfl) hebrewAndArabic_info ⟨37, 77, by kernel_rfl⟩ hebrewAndArabic_parts
noncomputable def devanagariAndJamoBody : Code := Try.f67.body.getD .skip
theorem devanagariAndJamo_is : Try.f67.body = some (tabBody 88 (posAt devanagariAndJamoBody 1) (posAt devanagariAndJamoBody 0) devanagariAndJamoRows) := by kernel_rfl
theorem devanagariAndJamo_info : infoOk 88 devanagariAndJamoRows := by unfold infoOk; kernel_rfl
theorem devanagariAndJamo_parts : Try.prog.built 88 (partsV devanagariAndJamoRows) = some (cellsOfRows devanagariAndJamoRows).toArray := by kernel_rfl
theorem devanagariAndJamo_any (w : World) : Calls Try.prog 67 #[] w fun e w' => e = .returned (tabV devanagariAndJamoRows) ∧ Grew w w' :=
  tab_any 88 _ _ devanagariAndJamoRows w Try.func67 devanagariAndJamo_is (by kernel_rfl) (by kernel_rfl) devanagariAndJamo_info ⟨12, 77, by kernel_rfl⟩ devanagariAndJamo_parts
noncomputable def punctuationAndSymbolsBody : Code := Try.f68.body.getD .skip
theorem punctuationAndSymbols_is : Try.f68.body = some (tabBody 90 (posAt punctuationAndSymbolsBody 1) (posAt punctuationAndSymbolsBody 0) punctuationAndSymbolsRows) := by kernel_rfl
theorem punctuationAndSymbols_info : infoOk 90 punctuationAndSymbolsRows := by unfold infoOk; kernel_rfl
theorem punctuationAndSymbols_parts : Try.prog.built 90 (partsV punctuationAndSymbolsRows) = some (cellsOfRows punctuationAndSymbolsRows).toArray := by kernel_rfl
theorem punctuationAndSymbols_any (w : World) : Calls Try.prog 68 #[] w fun e w' => e = .returned (tabV punctuationAndSymbolsRows) ∧ Grew w w' :=
  tab_any 90 _ _ punctuationAndSymbolsRows w Try.func68 punctuationAndSymbols_is (by kernel_rfl) (by kernel_rfl) punctuationAndSymbols_info ⟨34, 77, by kernel_rfl⟩ punctuationAndSymbols_parts
noncomputable def ideographsAndFormsBody : Code := Try.f69.body.getD .skip
theorem ideographsAndForms_is : Try.f69.body = some (tabBody 92 (posAt ideographsAndFormsBody 1) (posAt ideographsAndFormsBody 0) ideographsAndFormsRows) := by kernel_rfl
theorem ideographsAndForms_info : infoOk 92 ideographsAndFormsRows := by unfold infoOk; kernel_rfl
theorem ideographsAndForms_parts : Try.prog.built 92 (partsV ideographsAndFormsRows) = some (cellsOfRows ideographsAndFormsRows).toArray := by kernel_rfl
theorem ideographsAndForms_any (w : World) : Calls Try.prog 69 #[] w fun e w' => e = .returned (tabV ideographsAndFormsRows) ∧ Grew w w' :=
  tab_any 92 _ _ ideographsAndFormsRows w Try.func69 ideographsAndForms_is (by kernel_rfl) (by kernel_rfl) ideographsAndForms_info ⟨23, 77, by kernel_rfl⟩ ideographsAndForms_parts
noncomputable def supplementaryBody : Code := Try.f70.body.getD .skip
theorem supplementary_is : Try.f70.body = some (tabBody 94 (posAt supplementaryBody 1) (posAt supplementaryBody 0) supplementaryRows) := by kernel_rfl
theorem supplementary_info : infoOk 94 supplementaryRows := by unfold infoOk; kernel_rfl
theorem supplementary_parts : Try.prog.built 94 (partsV supplementaryRows) = some (cellsOfRows supplementaryRows).toArray := by kernel_rfl
theorem supplementary_any (w : World) : Calls Try.prog 70 #[] w fun e w' => e = .returned (tabV supplementaryRows) ∧ Grew w w' :=
  tab_any 94 _ _ supplementaryRows w Try.func70 supplementary_is (by kernel_rfl) (by kernel_rfl) supplementary_info ⟨6, 77, by kernel_rfl⟩ supplementary_parts
end Go.Proofs.Ytfiaongnogiegaa
