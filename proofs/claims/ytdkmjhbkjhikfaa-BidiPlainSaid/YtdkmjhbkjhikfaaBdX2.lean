/- What extend does to a sequence that is filled from a paragraph: one rune a round. -/
import Derived.Test.YtdkmjhbkjhikfaaBdV
import Derived.Test.YtdkmjhbkjhikfaaBdR
import Derived.Deep.RegionLaw
namespace Go.Proofs.Ytdkmjhbkjhikfaa
open Go.RowKit Go.Sort
set_option linter.unusedVariables false
set_option linter.unusedSimpArgs false

def rvals (n : Nat) (f : Nat → Int) : List Value := (List.range n).map fun k => Value.int .i32 (f k)
theorem rvals_succ (n : Nat) (f : Nat → Int) : rvals (n + 1) f = rvals n f ++ [.int .i32 (f n)] := by simp [rvals, List.range_succ]
theorem info_rune : (Try.prog.info? 21).map (fun i => (i.zero, i.size, i.bytes)) = some (some (.int .i32 0), 1, 4) := by kernel_rfl

/-- Two values do not lie in one block. -/
def Apart (x y : Value) : Prop := ∀ b, x.ownBlock = some b → y.ownBlock = some b → False
theorem Apart.symm {x y : Value} (h : Apart x y) : Apart y x := fun b h1 h2 => h b h2 h1
/-- The four slices: the type of their elements, what they hold when n runes are in. -/
def te (i : Nat) : TypeId := if i = 1 then 21 else 3
def XX (tx g : Nat → Int) (i n : Nat) : List Value := if i = 0 then vals n idF else if i = 1 then rvals n tx else vals n g
def XV (tx g : Nat → Int) (i n : Nat) : Value := if i = 0 then .int .i64 (idF n) else if i = 1 then .int .i32 (tx n) else .int .i64 (g n)
theorem XX_succ (tx g : Nat → Int) (i n : Nat) : XX tx g i (n + 1) = XX tx g i n ++ [XV tx g i n] := by
  unfold XX XV
  by_cases h : i = 0
  · simp only [if_pos h]; exact vals_succ n idF
  · by_cases h1 : i = 1
    · simp only [if_neg h, if_pos h1]; exact rvals_succ n tx
    · simp only [if_neg h, if_neg h1]; exact vals_succ n g
def NN (k s i : Nat) : Nat := if i < s then k + 1 else k
structure Ext (w0 wr : World) (sb k s : Nat) (V : Nat → Value) (lev st en : Int) (tx g : Nat → Int) : Prop where
  but : But sb w0 wr
  blk : Blk wr sb 71 [V 0, V 1, V 2, V 3, .int .i64 lev, .int .i64 st, .int .i64 en]
  lt : sb < w0.heap.size
  own : ∀ i, i < 4 → wr.ownsRow w0.heap.size (te i) 1 (V i) (NN k s i) (XX tx g i (NN k s i))
  apart : ∀ i j, i < 4 → j < 4 → i ≠ j → Apart (V i) (V j)
theorem own_move {w w' : World} {base : Nat} {e : TypeId} {size : Nat} {v : Value} {n : Nat} {xs : List Value} (h : w.ownsRow base e size v n xs) (hb : ∀ b, v.ownBlock = some b → w'.heap[b]? = w.heap[b]?) : w'.ownsRow base e size v n xs := by
  refine ⟨h.1, ?_⟩
  rcases h.2 with hn | ⟨g, cap, cur, rfl, h1, h2, h3⟩
  · exact Or.inl hn
  · exact Or.inr ⟨g, cap, cur, rfl, h1, (hb g rfl).trans h2, h3⟩
theorem own_grew {w w' : World} {base : Nat} {e : TypeId} {size : Nat} {v : Value} {n : Nat} {xs : List Value} (h : w.ownsRow base e size v n xs) (g : Grew w w') : w'.ownsRow base e size v n xs :=
  own_move h fun b hb => g.1.block b (h.lt b hb).2
section
variable {w0 wr wa w1 : World} {sb k s : Nat} {V : Nat → Value} {lev st en : Int} {tx g : Nat → Int}
theorem Ext.cur (H : Ext w0 wr sb k s V lev st en tx g) (hs : s < 4) : wr.ownsRow w0.heap.size (te s) 1 (V s) k (XX tx g s k) := by
  have := H.own s hs
  unfold NN at this
  rwa [if_neg (Nat.lt_irrefl _)] at this
theorem Ext.step (H : Ext w0 wr sb k s V lev st en tx g) (hs : s < 4) (ga : Grew wr wa) {v' : Value} (ho : w1.ownsRow w0.heap.size (te s) 1 v' (k + 1) (XX tx g s k ++ [XV tx g s k])) (hg : wa.grownBy w1 (V s).ownBlock) (hd : wa.drawn ≤ w1.drawn)
    (hv : v'.ownBlock = (V s).ownBlock ∨ v'.ownBlock = some wa.heap.size) : Ext w0 (w1.setCell ⟨sb, s, none⟩ v') sb k (s + 1) (upd V s v') lev st en tx g := by
  have hsz := H.but.size
  have hlt := H.lt
  have own_lt' : ∀ i, i < 4 → ∀ b, (V i).ownBlock = some b → w0.heap.size ≤ b ∧ b < wr.heap.size := fun i hi b hb => (H.own i hi).lt b hb
  have old : ∀ b, b < wr.heap.size → some b ≠ (V s).ownBlock → b ≠ sb → (w1.setCell ⟨sb, s, none⟩ v').heap[b]? = wr.heap[b]? := fun b h1 h2 h3 =>
    (heap_setCell_other w1 _ b _ h3).trans ((hg.block b (Nat.lt_of_lt_of_le h1 ga.size) h2).trans (ga.1.block b h1))
  have hsbn : some sb ≠ (V s).ownBlock := fun e => by have := own_lt' s hs sb e.symm; omega
  have bsb : Blk w1 sb 71 [V 0, V 1, V 2, V 3, .int .i64 lev, .int .i64 st, .int .i64 en] := (H.blk.grew ga).same (hg.block sb (H.blk.grew ga).lt hsbn)
  refine ⟨⟨?_, ?_, ?_, ?_, ?_, ?_⟩, ?_, hlt, fun i hi => ?_, fun i j hi hj hij => ?_⟩
  · exact hg.os.trans (ga.1.os.trans H.but.os)
  · exact hg.tape.trans (ga.1.tape.trans H.but.tape)
  · exact hg.output.trans (ga.1.output.trans H.but.output)
  · have h1 := hg.size; have h2 := ga.size; simp; omega
  · have h1 := ga.2; have h2 := H.but.drawn; show w0.drawn ≤ w1.drawn; omega
  · intro b hb hne
    rw [old b (by omega) (fun e => by have := own_lt' s hs b e.symm; omega) hne]
    exact H.but.block b hb hne
  · have q := bsb.set s v'
    have h4 : s = 0 ∨ s = 1 ∨ s = 2 ∨ s = 3 := by omega
    rcases h4 with rfl | rfl | rfl | rfl <;> exact q
  · by_cases e : i = s
    · subst e
      have e1 : upd V i v' i = v' := if_pos rfl
      have e2 : NN k (i + 1) i = k + 1 := if_pos (by omega)
      rw [e1, e2, XX_succ]
      exact own_move ho fun b hb => heap_setCell_other w1 _ b _ (by have := (ho.lt b hb).1; show b ≠ sb; omega)
    · have e1 : upd V s v' i = V i := if_neg e
      have e2 : NN k (s + 1) i = NN k s i := by
        unfold NN
        by_cases h : i < s
        · rw [if_pos h, if_pos (by omega)]
        · rw [if_neg h, if_neg (by omega)]
      rw [e1, e2]
      refine own_move (H.own i hi) fun b hb => old b (own_lt' i hi b hb).2 (fun e' => H.apart i s hi hs e b hb e'.symm) ?_
      have := (own_lt' i hi b hb).1; omega
  · have fresh : ∀ m, m < 4 → m ≠ s → Apart v' (V m) := fun m hm hms b h1 h2 => by
      rcases hv with h | h
      · exact H.apart s m hs hm (fun e => hms e.symm) b (h ▸ h1) h2
      · rw [h] at h1
        injection h1 with h1
        have := (own_lt' m hm b h2).2
        have := ga.size
        omega
    by_cases ei : i = s
    · subst ei
      rw [show upd V i v' i = v' from if_pos rfl, show upd V i v' j = V j from if_neg (fun e => hij e.symm)]
      exact fresh j hj (fun e => hij e.symm)
    · rw [show upd V s v' i = V i from if_neg ei]
      by_cases ej : j = s
      · subst ej
        rw [show upd V j v' j = v' from if_pos rfl]
        exact (fresh i hi ei).symm
      · rw [show upd V s v' j = V j from if_neg ej]
        exact H.apart i j hi hj hij
theorem Ext.next (H : Ext w0 wr sb k 4 V lev st en tx g) : Ext w0 wr sb (k + 1) 0 V lev st en tx g :=
  ⟨H.but, H.blk, H.lt, fun i hi => by
    have := H.own i hi
    have e1 : NN k 4 i = k + 1 := if_pos hi
    have e2 : NN (k + 1) 0 i = k + 1 := if_neg (by omega)
    rw [e2]; rw [e1] at this; exact this, H.apart⟩
end
end Go.Proofs.Ytdkmjhbkjhikfaa
