/- The environment of the law ExprLists; Eval at its expressions. -/
import Derived.Test.YtnhhmndnmkkhlaaDoorExLt
import Derived.Test.YtnhhmndnmkkhlaaDoorExY
namespace Go.Proofs.YtnhhmndnmkkhlaaDoor
open Go.RowKit Go.Sort
set_option linter.unusedVariables false
set_option linter.unusedSimpArgs false

theorem BRow.two' {W : World} {b B : Nat} {T : TypeId} {x y : Bd} (h : Blk W b T [.string x.nm, .int .i64 x.d.k, .int .i64 x.d.n, .string x.d.s, .slice x.d.p x.d.m x.d.c, .string y.nm, .int .i64 y.d.k, .int .i64 y.d.n, .string y.d.s, .slice y.d.p y.d.m y.d.c]) (hb : b < B) : BRow W B (some ⟨b, 0, none⟩) 2 (fun i => if i = 0 then x else y) :=
  fun _ => ⟨b, 0, rfl, hb, fun i hi => by
    match i, hi with
    | 0, _ => exact ⟨h.cell 0 rfl, h.cell 1 rfl, h.cell 2 rfl, h.cell 3 rfl, h.cell 4 rfl⟩
    | 1, _ => exact ⟨h.cell 5 rfl, h.cell 6 rfl, h.cell 7 rfl, h.cell 8 rfl, h.cell 9 rfl⟩⟩
/-- The lists x and y of the law. -/
structure LD (pa pb : Option Addr) (na nb : Nat) (ga gb : Nat → Int) : Prop where
  hn : na + nb ≤ 60
  qa : Plain pa
  qb : Plain pb
  ha : ∀ i, nuB (ga i) = true
  hb : ∀ i, nuB (gb i) = true
theorem LD.hG {pa pb : Option Addr} {na nb : Nat} {ga gb : Nat → Int} (D : LD pa pb na nb ga gb) (i : Nat) : nuB (catG ga gb na i) = true := by
  unfold catG; split
  · exact D.ha _
  · exact D.hb _
abbrev envL (pa pb : Option Addr) (na nb ca cb : Nat) : List Value := [.string ⟨#[120]⟩, .int .i64 4, .int .i64 0, .string ⟨#[]⟩, .slice pa na ca, .string ⟨#[121]⟩, .int .i64 4, .int .i64 0, .string ⟨#[]⟩, .slice pb nb cb]
abbrev argsL : List Value := [.int .i64 4, .int .i64 0, .string ⟨#[120]⟩, .slice none 0 0, .int .i64 4, .int .i64 0, .string ⟨#[121]⟩, .slice none 0 0]
structure EnvL (W : World) (E A : Nat) (pa pb : Option Addr) (na nb ca cb : Nat) (ga gb : Nat → Int) : Prop where
  hE : Blk W E 54 (envL pa pb na nb ca cb)
  hA : Blk W A 58 argsL
  ra : Row W W.heap.size pa na (fun i => nd 1 (ga i))
  rb : Row W W.heap.size pb nb (fun i => nd 1 (gb i))
theorem EnvL.grew {W W' : World} {E A : Nat} {pa pb : Option Addr} {na nb ca cb : Nat} {ga gb : Nat → Int} (h : EnvL W E A pa pb na nb ca cb ga gb) (g : Grew W W') : EnvL W' E A pa pb na nb ca cb ga gb :=
  ⟨h.hE.grew g, h.hA.grew g, (h.ra.below g.1).mono g.size, (h.rb.below g.1).mono g.size⟩
abbrev vx : Nd := ⟨4, 0, ⟨#[120]⟩, 0, none, 0⟩
abbrev vy : Nd := ⟨4, 0, ⟨#[121]⟩, 0, none, 0⟩
abbrev bothN (A : Nat) : Nd := ⟨16, 0, ⟨#[]⟩, 2, some ⟨A, 0, none⟩, 2⟩
abbrev bds (pa pb : Option Addr) (na nb ca cb : Nat) (i : Nat) : Bd := if i = 0 then ⟨⟨#[120]⟩, ⟨4, 0, ⟨#[]⟩, na, pa, ca⟩⟩ else ⟨⟨#[121]⟩, ⟨4, 0, ⟨#[]⟩, nb, pb, cb⟩⟩
section
variable {W : World} {E A : Nat} {pa pb : Option Addr} {na nb ca cb : Nat} {ga gb : Nat → Int}
theorem EnvL.brow (h : EnvL W E A pa pb na nb ca cb ga gb) : BRow W W.heap.size (some ⟨E, 0, none⟩) 2 (bds pa pb na nb ca cb) :=
  BRow.two' (x := ⟨⟨#[120]⟩, ⟨4, 0, ⟨#[]⟩, na, pa, ca⟩⟩) (y := ⟨⟨#[121]⟩, ⟨4, 0, ⟨#[]⟩, nb, pb, cb⟩⟩) h.hE h.hE.lt
theorem EnvL.chk (h : EnvL W E A pa pb na nb ca cb ga gb) (D : LD pa pb na nb ga gb) : ∀ i, i < 2 → ∀ W', Grew W W' → Calls Tryd.prog 11 #[(bds pa pb na nb ca cb i).d.v] W' fun e w' => e = .returned (.int .i64 0) ∧ Grew W' w' := by
  intro i hi W' g
  have h' := h.grew g
  have hn := D.hn
  match i, hi with
  | 0, _ => exact Check_ls pa na ca ga W' (by omega) h'.ra (fun i _ => D.ha i)
  | 1, _ => exact Check_ls pb nb cb gb W' (by omega) h'.rb (fun i _ => D.hb i)
theorem EnvL.row (h : EnvL W E A pa pb na nb ca cb ga gb) : Row W W.heap.size (some ⟨A, 0, none⟩) 2 (two vx vy) := Row.two (x := vx) (y := vy) h.hA h.hA.lt
theorem both_V (h : EnvL W E A pa pb na nb ca cb ga gb) {dep : Int} (h0 : 0 ≤ dep) (h1 : dep ≤ 15) : Vl W W.heap.size (bothN A) dep 3 :=
  Vl.node (ts := fun _ => 1) (.inr (.inr (.inr ⟨by show (4 : Int) < 16; omega, rfl, rfl, .inr (.inl ⟨by simp [Op2], rfl⟩)⟩))) h.row h0 (by omega) fun i hi => by
    match i, hi with
    | 0, _ => exact Vl.leaf (.inr (.inr (.inl ⟨rfl, rfl, ⟨by rfl, by decide⟩, rfl⟩))) rfl (by omega) (by omega)
    | 1, _ => exact Vl.leaf (.inr (.inr (.inl ⟨rfl, rfl, ⟨by rfl, by decide⟩, rfl⟩))) rfl (by omega) (by omega)
theorem both_E (h : EnvL W E A pa pb na nb ca cb ga gb) (D : LD pa pb na nb ga gb) : EvG W W.heap.size (some ⟨E, 0, none⟩) 2 2 (bothN A) 4 0 0 (NewL (na + nb) (catG ga gb na)) :=
  EvG.cat h.row (Nat.le_refl _) (EvG.varL (by omega) h.brow (Nat.le_refl _) (by rfl) h.ra) (EvG.varL (by omega) h.brow (Nat.le_refl _) (by rfl) h.rb) (by have := D.hn; omega) D.qa D.qb (fun i _ => D.ha i) (fun i _ => D.hb i) (fun i _ => D.hG i)
theorem Eval_both (h : EnvL W E A pa pb na nb ca cb ga gb) (D : LD pa pb na nb ga gb) :
    Calls Tryd.prog 30 #[(bothN A).v, .slice (some ⟨E, 0, none⟩) 2 2] W fun e w' => ∃ p2 m2 c2, e = .returned (.tuple #[lsV p2 m2 c2, .int .i64 0]) ∧ OwnL (W.heap.size + 1) (na + nb) (catG ga gb na) p2 m2 c2 w' ∧ Grew W w' :=
  Eval_list W (both_V h (by omega) (by omega)) (by omega) (both_E h D) (by omega) h.brow (h.chk D) NewL.grew (by have := D.hn; omega) (fun L p m c W' => NewL.row L p m c W')
/-- Eval where the value is an int, whatever the bindings. -/
theorem Eval_int {d : Nd} {t : Nat} {kr nr er : Int} (h : EnvL W E A pa pb na nb ca cb ga gb) (D : LD pa pb na nb ga gb) (hv : Vl W W.heap.size d 1 t) (ht : t ≤ 400) (he : Evs W W.heap.size (some ⟨E, 0, none⟩) 2 2 d (er, kr, nr)) :
    Calls Tryd.prog 30 #[d.v, .slice (some ⟨E, 0, none⟩) 2 2] W fun e w' => e = .returned (.tuple #[nv kr nr, .int .i64 er]) ∧ Grew W w' := by
  refine (Eval_gen (Gf := fun p m c _ => p = none ∧ m = 0 ∧ c = 0) W hv ht he.gen (by omega) h.brow (h.chk D) (fun _ _ _ _ _ _ h _ => h) (fun _ _ _ _ _ h _ => h) (fun _ _ _ _ _ _ _ h _ _ => h) (fun L pr mr cr W' hh hl => hide ?_)).mono ?_
  · obtain ⟨rfl, rfl, rfl⟩ := hh
    refine (clone_lf kr nr W').mono ?_
    rintro e w' ⟨rfl, g⟩
    exact ⟨none, 0, 0, rfl, ⟨rfl, rfl, rfl⟩, g⟩
  · rintro e w' ⟨p, m, c, rfl, ⟨rfl, rfl, rfl⟩, g⟩
    exact ⟨rfl, g⟩
abbrev opL (A : Nat) (k : Int) : List Value := [.int .i64 16, .int .i64 0, .string ⟨#[]⟩, .slice (some ⟨A, 0, none⟩) 2 2, .int .i64 1, .int .i64 k, .string ⟨#[]⟩, .slice none 0 0]
abbrev opN (op : Int) (I : Nat) : Nd := ⟨op, 0, ⟨#[]⟩, 2, some ⟨I, 0, none⟩, 2⟩
theorem op_V {op k : Int} {I : Nat} (h : EnvL W E A pa pb na nb ca cb ga gb) (hI : Blk W I 58 (opL A k)) (hop : op = 20 ∨ op = 21) (hk : nuB k = true) : Vl W W.heap.size (opN op I) 1 5 :=
  Vl.node (ts := fun i => if i = 0 then 3 else 1) (.inr (.inr (.inr ⟨by show (4 : Int) < op; omega, rfl, rfl, .inr (.inl ⟨by show Op2 op; rcases hop with rfl | rfl <;> simp [Op2], rfl⟩)⟩))) (Row.two (x := bothN A) (y := nd 1 k) hI hI.lt) (by omega) (by omega) fun i hi => by
    match i, hi with
    | 0, _ => exact both_V h (by omega) (by omega)
    | 1, _ => exact int_V hk (by omega) (by omega)
theorem Eval_item {k I : Nat} (h : EnvL W E A pa pb na nb ca cb ga gb) (D : LD pa pb na nb ga gb) (hI : Blk W I 58 (opL A (k : Int))) (hk : k < na + nb) :
    Calls Tryd.prog 30 #[(opN 20 I).v, .slice (some ⟨E, 0, none⟩) 2 2] W fun e w' => e = .returned (.tuple #[nv 1 (catG ga gb na k), .int .i64 0]) ∧ Grew W w' := by
  have hn := D.hn
  have hkn : nuB (k : Int) = true := by unfold nuB; simp; omega
  exact Eval_int h D (op_V h hI (.inl rfl) hkn) (by omega) (EvG.item (Row.two (x := bothN A) (y := nd 1 (k : Int)) hI hI.lt) (Nat.le_refl _) (both_E h D) Evs.int (by omega) hk hkn (fun i _ => D.hG i))
theorem Eval_out {k : Int} {I : Nat} (h : EnvL W E A pa pb na nb ca cb ga gb) (D : LD pa pb na nb ga gb) (hI : Blk W I 58 (opL A k)) (hk : ((na + nb : Nat) : Int) ≤ k) (hk1 : k ≤ 100) :
    Calls Tryd.prog 30 #[(opN 21 I).v, .slice (some ⟨E, 0, none⟩) 2 2] W fun e w' => e = .returned (.tuple #[nv 0 0, .int .i64 1]) ∧ Grew W w' := by
  have hn := D.hn
  have hkn : nuB k = true := by unfold nuB; simp; omega
  exact Eval_int h D (op_V h hI (.inr rfl) hkn) (by omega) (EvG.out (.inr rfl) (Row.two (x := bothN A) (y := nd 1 k) hI hI.lt) (Nat.le_refl _) (both_E h D) Evs.int (by omega) hk hkn (fun i _ => D.hG i))
theorem Eval_drop {k I : Nat} (h : EnvL W E A pa pb na nb ca cb ga gb) (D : LD pa pb na nb ga gb) (hI : Blk W I 58 (opL A (k : Int))) (hk : k < na + nb) :
    Calls Tryd.prog 30 #[(opN 21 I).v, .slice (some ⟨E, 0, none⟩) 2 2] W fun e w' => ∃ p2 m2 c2, e = .returned (.tuple #[lsV p2 m2 c2, .int .i64 0]) ∧ OwnL (W.heap.size + 1) (k + (na + nb - (k + 1))) (dropG (catG ga gb na) k) p2 m2 c2 w' ∧ Grew W w' := by
  have hn := D.hn
  have hkn : nuB (k : Int) = true := by unfold nuB; simp; omega
  exact Eval_list W (op_V h hI (.inr rfl) hkn) (by omega) (EvG.drop (Row.two (x := bothN A) (y := nd 1 (k : Int)) hI hI.lt) (Nat.le_refl _) (both_E h D) Evs.int (by omega) hk hkn (fun i _ => D.hG i) (fun i _ => by unfold dropG; unfold catG; split; exact D.hG _; exact D.hG _)) (by omega) h.brow (h.chk D) NewL.grew (by omega) (fun L p m c W' => NewL.row L p m c W')
end
end Go.Proofs.YtnhhmndnmkkhlaaDoor
