/- A struct in a block of its own whose fields are slices, each with a row of its own: read, appended to, written. -/
import Derived.Test.YtfoacgdahonapaaUser
namespace Go.Proofs.Ytfoacgdahonapaa
open Go.RowKit Abs
set_option linter.unusedVariables false

/-- The blocks of such a struct. -/
def recF (sb : Nat) (vs : List Value) : Nat → Prop := fun k => k = sb ∨ ∃ (i : Nat) (v : Value), vs[i]? = some v ∧ v.ownBlock = some k

structure Recs (w : World) (sb : Nat) (vs : List Value) (rows : List (TypeId × List Value)) (T : TypeId) : Prop where
  blk : Blk w sb vs T
  own : ∀ (i : Nat) (v : Value) (e : TypeId) (xs : List Value), vs[i]? = some v → rows[i]? = some (e, xs) → w.ownsRow 0 e 1 v xs.length xs
  len : vs.length = rows.length
  apart : ∀ (i j : Nat) (v u : Value) (k : Nat), vs[i]? = some v → vs[j]? = some u → v.ownBlock = some k → u.ownBlock = some k → i = j
  far : ∀ (i : Nat) (v : Value), vs[i]? = some v → v.ownBlock ≠ some sb

theorem Recs.lt {w : World} {sb : Nat} {vs : List Value} {rows : List (TypeId × List Value)} {T : TypeId} (h : Recs w sb vs rows T) : ∀ k, recF sb vs k → k < w.heap.size := by
  rintro k (rfl | ⟨i, v, hv, hk⟩)
  · exact h.blk.lt
  · have hi : i < rows.length := by rw [← h.len]; exact (List.getElem?_eq_some_iff.1 hv).1
    exact ((h.own i v _ _ hv (List.getElem?_eq_getElem hi)).lt k hk).2

theorem Recs.keep {w w' : World} {sb : Nat} {vs : List Value} {rows : List (TypeId × List Value)} {T : TypeId} (h : Recs w sb vs rows T) (hb : ∀ k, recF sb vs k → w'.heap[k]? = w.heap[k]?) : Recs w' sb vs rows T := by
  refine ⟨(hb sb (.inl rfl)).trans h.blk, ?_, h.len, h.apart, h.far⟩
  intro i v e xs hv hr
  have ho := h.own i v e xs hv hr
  refine ⟨ho.1, ?_⟩
  rcases ho.2 with h1 | ⟨g, cap, cur, rfl, hb1, hg, rest⟩
  · exact .inl h1
  · exact .inr ⟨g, cap, cur, rfl, hb1, (hb g (.inr ⟨i, _, hv, rfl⟩)).trans hg, rest⟩

theorem Recs.kept {S : Nat → Prop} {w w' : World} {sb : Nat} {vs : List Value} {rows : List (TypeId × List Value)} {T : TypeId} (h : Recs w sb vs rows T) (k : Kept S w w') (hs : ∀ i, S i → ¬ recF sb vs i) : Recs w' sb vs rows T :=
  h.keep (fun i hi => k.block i (h.lt i hi) (fun si => hs i si hi))

theorem Recs.cell {w : World} {sb : Nat} {vs : List Value} {rows : List (TypeId × List Value)} {T : TypeId} (h : Recs w sb vs rows T) (i : Nat) : w.cell? ⟨sb, i, none⟩ = vs[i]? := h.blk.cell i

/-- One element more in one of the rows: w1 is the world with the new element laid, w2 the one behind the append. -/
theorem Recs.appended {w w1 w2 : World} {sb : Nat} {vs : List Value} {rows : List (TypeId × List Value)} {T : TypeId} (h : Recs w sb vs rows T) {i : Nat} {v : Value} {e : TypeId} {xs : List Value} (hv : vs[i]? = some v) (hr : rows[i]? = some (e, xs))
    (k : Kept Nil w w1) {g cap n : Nat} {ys : List Value} (own : w2.ownsRow 0 e 1 (.slice (some ⟨g, 0, none⟩) n cap) n ys) (hn : n = ys.length) (gr : w1.grownBy w2 v.ownBlock) (lies : v.ownBlock = some g ∨ w.heap.size ≤ g) :
    Recs (w2.setCell ⟨sb, i, none⟩ (.slice (some ⟨g, 0, none⟩) n cap)) sb (vs.set i (.slice (some ⟨g, 0, none⟩) n cap)) (rows.set i (e, ys)) T ∧
      Kept (recF sb vs) w (w2.setCell ⟨sb, i, none⟩ (.slice (some ⟨g, 0, none⟩) n cap)) ∧ (∀ j, recF sb (vs.set i (.slice (some ⟨g, 0, none⟩) n cap)) j → recF sb vs j ∨ w.heap.size ≤ j) ∧ Blk w2 sb vs T := by
  have kg : Kept (fun j => v.ownBlock = some j) w w2 := Kept.grown k.wide gr (fun j hj => .inl hj)
  have b2 : Blk w2 sb vs T := Blk.keep kg h.blk (h.far i v hv)
  have gsb : g ≠ sb := by
    rcases lies with h1 | h1
    · intro e; subst e; exact h.far i v hv h1
    · have := h.blk.lt; omega
  have gother : ∀ (j : Nat) (u : Value), j ≠ i → vs[j]? = some u → u.ownBlock ≠ some g := by
    intro j u hj hu he
    rcases lies with h1 | h1
    · exact hj (h.apart j i u v g hu hv he h1)
    · have := h.lt g (.inr ⟨j, u, hu, he⟩); omega
  have hil : i < vs.length := (List.getElem?_eq_some_iff.1 hv).1
  have hir : i < rows.length := by rw [← h.len]; exact hil
  refine ⟨⟨b2.set i _, ?_, by simp [h.len], ?_, ?_⟩, ?_, ?_, b2⟩
  · intro j u e' zs hu hz
    rw [List.getElem?_set] at hu hz
    have ks : Kept (· = sb) w2 (w2.setCell ⟨sb, i, none⟩ (.slice (some ⟨g, 0, none⟩) n cap)) := Kept.setIn (S := (· = sb)) (Kept.refl _ _) _ _ rfl _
    by_cases hj : i = j
    · subst hj
      rw [if_pos rfl, if_pos hil] at hu
      rw [if_pos rfl, if_pos hir] at hz
      simp only [Option.some.injEq] at hu
      subst hu
      simp only [Option.some.injEq, Prod.mk.injEq] at hz
      obtain ⟨rfl, rfl⟩ := hz
      rw [← hn]
      exact ks.row own (fun a ha hs => by simp only [Value.ownBlock, Option.some.injEq] at ha; omega)
    · rw [if_neg hj] at hu hz
      have ho := kg.row (h.own j u e' zs hu hz) (fun a ha hs => hj (h.apart i j v u a hv hu hs ha))
      exact ks.row ho (fun a ha hs => h.far j u hu (by rw [ha, hs]))
  · intro a b u u' q hu hu' hq hq'
    rw [List.getElem?_set] at hu hu'
    by_cases ha : i = a
    · by_cases hb : i = b
      · omega
      · subst ha
        rw [if_pos rfl, if_pos hil] at hu
        rw [if_neg hb] at hu'
        simp only [Option.some.injEq] at hu
        subst hu
        simp only [Value.ownBlock, Option.some.injEq] at hq
        subst hq
        exact absurd hq' (gother b u' (fun e => hb e.symm) hu')
    · by_cases hb : i = b
      · subst hb
        rw [if_pos rfl, if_pos hil] at hu'
        rw [if_neg ha] at hu
        simp only [Option.some.injEq] at hu'
        subst hu'
        simp only [Value.ownBlock, Option.some.injEq] at hq'
        subst hq'
        exact absurd hq (gother a u (fun e => ha e.symm) hu)
      · rw [if_neg ha] at hu
        rw [if_neg hb] at hu'
        exact h.apart a b u u' q hu hu' hq hq'
  · intro j u hu
    rw [List.getElem?_set] at hu
    by_cases hj : i = j
    · subst hj
      rw [if_pos rfl, if_pos hil] at hu
      simp only [Option.some.injEq] at hu
      subst hu
      simp only [Value.ownBlock, ne_eq, Option.some.injEq]
      exact gsb
    · rw [if_neg hj] at hu
      exact h.far j u hu
  · exact Kept.setIn (kg.mono (fun j hj => .inr ⟨i, v, hv, hj⟩)) _ _ (.inl rfl) _
  · rintro j (rfl | ⟨a, u, hu, hj⟩)
    · exact .inl (.inl rfl)
    · rw [List.getElem?_set] at hu
      by_cases ha : i = a
      · subst ha
        rw [if_pos rfl, if_pos hil] at hu
        simp only [Option.some.injEq] at hu
        subst hu
        simp only [Value.ownBlock, Option.some.injEq] at hj
        subst hj
        rcases lies with h1 | h1
        · exact .inl (.inr ⟨i, v, hv, h1⟩)
        · exact .inr h1
      · rw [if_neg ha] at hu
        exact .inl (.inr ⟨a, u, hu, hj⟩)

/-- One element of one of the rows is written. -/
theorem Recs.written {w : World} {sb : Nat} {vs : List Value} {rows : List (TypeId × List Value)} {T : TypeId} (h : Recs w sb vs rows T) {i : Nat} {g n cap : Nat} {e : TypeId} {xs : List Value} (hv : vs[i]? = some (.slice (some ⟨g, 0, none⟩) n cap)) (hr : rows[i]? = some (e, xs)) (hn : n = xs.length) (j : Nat) (u : Value) :
    Recs (w.setCell ⟨g, j, none⟩ u) sb vs (rows.set i (e, xs.set j u)) T ∧ Kept (recF sb vs) w (w.setCell ⟨g, j, none⟩ u) := by
  have hil : i < vs.length := (List.getElem?_eq_some_iff.1 hv).1
  have hir : i < rows.length := by rw [← h.len]; exact hil
  have hg : g ≠ sb := fun e => h.far i _ hv (by rw [e]; rfl)
  have ho := h.own i _ e xs hv hr
  rw [← hn] at ho
  have hst := (ho.stored j u).1
  have ks : Kept (· = g) w (w.setCell ⟨g, j, none⟩ u) := Kept.setIn (S := (· = g)) (Kept.refl _ _) _ _ rfl _
  refine ⟨⟨Blk.keep ks h.blk (Ne.symm hg), ?_, by simp [h.len], h.apart, h.far⟩, ks.mono (fun k hk => .inr ⟨i, _, hv, by rw [hk]; rfl⟩)⟩
  intro a v e' zs hv' hz
  rw [List.getElem?_set] at hz
  by_cases ha : i = a
  · subst ha
    rw [if_pos rfl, if_pos hir] at hz
    rw [hv] at hv'
    simp only [Option.some.injEq] at hv'
    subst hv'
    simp only [Option.some.injEq, Prod.mk.injEq] at hz
    obtain ⟨rfl, rfl⟩ := hz
    rw [List.length_set, ← hn]
    exact hst
  · rw [if_neg ha] at hz
    exact ks.row (h.own a v e' zs hv' hz) (fun b hb hs => ha (h.apart i a _ v b hv hv' (by rw [hs]; rfl) hb))

end Go.Proofs.Ytfoacgdahonapaa
