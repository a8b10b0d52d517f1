/- Words on memory: which blocks a step may turn; a row of cells; what a call leaves. -/
import Derived.Test.YtfoacgdahonapaaRows
import Derived.Test.YtfoacgdahonapaaAbs
import Derived.WalkKit
import Derived.Lib.Hide
import Derived.Deep.QuietTactic
import Derived.Deep.RegionHeld3
import Derived.Deep.DeepCutAuto
import Derived.Deep.AppendLies
import Derived.BigQuiet
namespace Go.Proofs.Ytfoacgdahonapaa
open Go.RowKit

/-- w' is w with new blocks, and perhaps with other things in the blocks of S. -/
structure Kept (S : Nat → Prop) (w w' : World) : Prop where
  os : w'.os = w.os
  tape : w'.tape = w.tape
  output : w'.output = w.output
  size : w.heap.size ≤ w'.heap.size
  block : ∀ k, k < w.heap.size → ¬ S k → w'.heap[k]? = w.heap[k]?

/-- No block. -/
def Nil : Nat → Prop := fun _ => False

theorem Kept.refl (S : Nat → Prop) (w : World) : Kept S w w := ⟨rfl, rfl, rfl, Nat.le_refl _, fun _ _ _ => rfl⟩

theorem Kept.trans {S : Nat → Prop} {a b c : World} (h : Kept S a b) (k : Kept S b c) : Kept S a c :=
  ⟨k.os.trans h.os, k.tape.trans h.tape, k.output.trans h.output, Nat.le_trans h.size k.size,
   fun i hi hs => (k.block i (Nat.lt_of_lt_of_le hi h.size) hs).trans (h.block i hi hs)⟩

/-- The second step may also turn what the first has made. -/
theorem Kept.next {S T : Nat → Prop} {a b c : World} (h : Kept S a b) (k : Kept T b c) (ht : ∀ i, T i → S i ∨ a.heap.size ≤ i) : Kept S a c :=
  ⟨k.os.trans h.os, k.tape.trans h.tape, k.output.trans h.output, Nat.le_trans h.size k.size,
   fun i hi hs => (k.block i (Nat.lt_of_lt_of_le hi h.size) (fun t => (ht i t).elim hs (by omega))).trans (h.block i hi hs)⟩

theorem Kept.mono {S T : Nat → Prop} {a b : World} (h : Kept S a b) (hst : ∀ k, S k → T k) : Kept T a b :=
  ⟨h.os, h.tape, h.output, h.size, fun i hi hs => h.block i hi (fun s => hs (hst i s))⟩

theorem Kept.wide {S : Nat → Prop} {a b : World} (h : Kept Nil a b) : Kept S a b := h.mono (fun _ f => f.elim)

theorem Kept.drew {S : Nat → Prop} {a w : World} (h : Kept S a w) : Kept S a w.drew := ⟨h.os, h.tape, h.output, h.size, h.block⟩

theorem Kept.drewN {S : Nat → Prop} {a w : World} (h : Kept S a w) (n : Nat) : Kept S a (w.drewN n) := ⟨h.os, h.tape, h.output, h.size, h.block⟩

theorem Kept.alloc {S : Nat → Prop} {a w : World} (h : Kept S a w) (o : Obj) : Kept S a (w.alloc o) :=
  h.trans ⟨rfl, rfl, rfl, by simp, fun k hk _ => Below.heap_alloc _ _ _ hk⟩

theorem Kept.setCell {S : Nat → Prop} {a w : World} (h : Kept S a w) {p : Addr} (hp : S p.block ∨ a.heap.size ≤ p.block) (u : Value) : Kept S a (w.setCell p u) :=
  h.next (T := fun k => k = p.block) ⟨rfl, rfl, rfl, by simp [World.setCell], fun k _ hs => Below.heap_setCell _ _ _ _ hs⟩ (fun i hi => by subst hi; exact hp)

theorem Kept.grown {S : Nat → Prop} {a w w' : World} {row : Option Nat} (h : Kept S a w) (hg : w.grownBy w' row) (hr : ∀ k, row = some k → S k ∨ a.heap.size ≤ k) : Kept S a w' :=
  h.next (T := fun k => row = some k) ⟨hg.os, hg.tape, hg.output, hg.size, fun k hk hs => hg.block k hk (fun e => hs e.symm)⟩ (fun i hi => hr i hi)

theorem Kept.cell {S : Nat → Prop} {a w : World} (h : Kept S a w) {p : Addr} {v : Value} (hc : a.cell? p = some v) (hs : ¬ S p.block) : w.cell? p = some v :=
  (World.cell?_of_block (h.block p.block (World.block_lt_of_cell? a p hc) hs)).trans hc

theorem Kept.obj {S : Nat → Prop} {a w : World} (h : Kept S a w) {k : Nat} {o : Obj} (hc : a.heap[k]? = some o) (hs : ¬ S k) : w.heap[k]? = some o :=
  (h.block k (Array.getElem?_eq_some_iff.1 hc).1 hs).trans hc

theorem Kept.row {S : Nat → Prop} {a w : World} (h : Kept S a w) {base : Nat} {e : TypeId} {size : Nat} {v : Value} {n : Nat} {xs : List Value} (hr : a.ownsRow base e size v n xs)
    (hs : ∀ k, v.ownBlock = some k → ¬ S k) : w.ownsRow base e size v n xs := by
  refine ⟨hr.1, ?_⟩
  rcases hr.2 with h1 | ⟨g, cap, cur, rfl, hb, hg, rest⟩
  · exact .inl h1
  · exact .inr ⟨g, cap, cur, rfl, hb, h.obj hg (hs g rfl), rest⟩

/-- Below B nothing turns, if S lies above. -/
theorem Kept.below {S : Nat → Prop} {a w : World} (h : Kept S a w) {B : Nat} (hB : B ≤ a.heap.size) (hs : ∀ k, S k → B ≤ k) : Below B a w :=
  ⟨h.os, h.tape, h.output, h.size, fun k hk => h.block k (by omega) (fun s => by have := hs k s; omega)⟩

/-- A block that is a row of these values. -/
def Blk (w : World) (b : Nat) (xs : List Value) (E : TypeId) : Prop := w.heap[b]? = some (.cells xs.toArray E (0, 0))

theorem Blk.lt {w : World} {b : Nat} {xs : List Value} {E : TypeId} (h : Blk w b xs E) : b < w.heap.size := (Array.getElem?_eq_some_iff.1 h).1

theorem Blk.cell {w : World} {b : Nat} {xs : List Value} {E : TypeId} (h : Blk w b xs E) (j : Nat) : w.cell? ⟨b, j, none⟩ = xs[j]? := by
  rw [cell_of_row w b j _ E (0, 0) h]; simp

theorem Blk.frozen {w : World} {b : Nat} {xs : List Value} {E : TypeId} (h : Blk w b xs E) (j : Nat) : w.frozen? ⟨b, j, none⟩ = false :=
  frozen_of_row w b j _ E h

theorem Blk.set {w : World} {b : Nat} {xs : List Value} {E : TypeId} (h : Blk w b xs E) (j : Nat) (u : Value) : Blk (w.setCell ⟨b, j, none⟩ u) b (xs.set j u) E := by
  unfold Blk
  rw [heap_setCell_same w b j _ E u h]
  simp

theorem Blk.keep {S : Nat → Prop} {a w : World} {b : Nat} {xs : List Value} {E : TypeId} (h : Kept S a w) (hb : Blk a b xs E) (hs : ¬ S b) : Blk w b xs E := h.obj hb hs

theorem Blk.new {w : World} {b : Nat} {xs : List Value} {E : TypeId} (h : b = w.heap.size) : Blk (w.alloc (.cells xs.toArray E)) b xs E := by
  subst h; exact heap_alloc_new w _

theorem Blk.alloc {w : World} {b : Nat} {xs : List Value} {E : TypeId} (h : Blk w b xs E) (o : Obj) : Blk (w.alloc o) b xs E := by
  unfold Blk; exact (Below.heap_alloc w o b h.lt).trans h

theorem Blk.drewN {w : World} {b : Nat} {xs : List Value} {E : TypeId} (h : Blk w b xs E) (n : Nat) : Blk (w.drewN n) b xs E := h

theorem Blk.drew {w : World} {b : Nat} {xs : List Value} {E : TypeId} (h : Blk w b xs E) : Blk w.drew b xs E := h

/-- A slice that owns something begins at the head of a row. -/
theorem row_some {w : World} {base : Nat} {e : TypeId} {size : Nat} {v : Value} {n : Nat} {xs : List Value} (h : w.ownsRow base e size v n xs) (hn : 0 < n) :
    ∃ g cap, v = .slice (some ⟨g, 0, none⟩) n cap ∧ g < w.heap.size ∧ n ≤ cap ∧ cap ≤ maxLen ∧ (∀ j, j < n * size → w.cell? ⟨g, j, none⟩ = xs[j]?) := by
  rcases h.2 with ⟨_, h0⟩ | ⟨g, cap, cur, rfl, _, hg, hc, hm, _⟩
  · omega
  · exact ⟨g, cap, rfl, (Array.getElem?_eq_some_iff.1 hg).1, hc, hm, fun j hj => h.cellAt j hj⟩

theorem Kept.setIn {S : Nat → Prop} {a w : World} (h : Kept S a w) (b o : Nat) (hb : S b) (u : Value) : Kept S a (w.setCell ⟨b, o, none⟩ u) := h.setCell (.inl hb) u

end Go.Proofs.Ytfoacgdahonapaa
