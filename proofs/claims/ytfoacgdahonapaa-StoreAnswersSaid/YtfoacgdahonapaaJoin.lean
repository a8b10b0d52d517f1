/- The tree of waiting pages in memory: how many leaves it has; the rows over some nodes made anew. -/
import Derived.Test.YtfoacgdahonapaaNode
namespace Go.Proofs.Ytfoacgdahonapaa
open Go.RowKit Abs Tree
set_option linter.unusedVariables false

def rows3 (rs : List Rw) : List Value := rs.flatMap rv

theorem rows3_len (rs : List Rw) : (rows3 rs).length = rs.length * 3 := by
  induction rs with
  | nil => rfl
  | cons r rs ih => unfold rows3 at ih ⊢; rw [List.flatMap_cons, List.length_append, ih]; simp [rv]; omega

theorem rows3_get (rs : List Rw) (i j : Nat) (hj : j < 3) : (rows3 rs)[i * 3 + j]? = (rs[i]?).bind fun r => (rv r)[j]? := by
  unfold rows3
  induction rs generalizing i with
  | nil => simp
  | cons r rs ih =>
    rw [List.flatMap_cons]
    have hx : (rv r).length = 3 := rfl
    cases i with
    | zero => rw [List.getElem?_append_left (by omega)]; simp
    | succ i => rw [List.getElem?_append_right (by omega), hx, show (i + 1) * 3 + j - 3 = i * 3 + j by omega, ih i]; simp

theorem rows3_set (rs : List Rw) (i : Nat) (r : Rw) (h : i < rs.length) :
    (((rows3 rs).set (i * 3) (.int .i64 r.f)).set (i * 3 + 1) (.int .i64 r.k)).set (i * 3 + 2) (.int .i64 r.m) = rows3 (rs.set i r) := by
  unfold rows3
  induction rs generalizing i with
  | nil => simp at h
  | cons x rs ih =>
    cases i with
    | zero => simp [List.flatMap_cons, rv]
    | succ i =>
      rw [List.set_cons_succ, List.flatMap_cons, List.flatMap_cons, ← ih i (by simpa using h)]
      have e1 : (i + 1) * 3 = (rv x).length + i * 3 := by simp [rv]; omega
      rw [e1, List.set_append_right _ _ (by omega), show (rv x).length + i * 3 + 1 = (rv x).length + (i * 3 + 1) by omega, List.set_append_right _ _ (by omega), show (rv x).length + i * 3 + 2 = (rv x).length + (i * 3 + 2) by omega, List.set_append_right _ _ (by omega)]
      simp [Nat.add_sub_cancel_left]

/-- A node's row. -/
def rw (rs : List Rw) (n : Nat) : Rw := rs.getD n ⟨0, 0, 0⟩

theorem rw_some {rs : List Rw} {n : Nat} (h : n < rs.length) : rs[n]? = some (rw rs n) := by
  unfold rw
  rw [List.getD_eq_getElem?_getD, List.getElem?_eq_getElem h]; rfl

theorem rw_set {rs : List Rw} {i : Nat} (h : i < rs.length) (r : Rw) (n : Nat) : rw (rs.set i r) n = if n = i then r else rw rs n := by
  unfold rw
  rw [List.getD_eq_getElem?_getD, List.getElem?_set, List.getD_eq_getElem?_getD]
  by_cases e : i = n
  · subst e; simp [h]
  · rw [if_neg e, if_neg (fun e2 => e e2.symm)]

/-- The tree's slice, and the block that holds its header. -/
structure Nodes (w : World) (mb : Nat) (vs : List Value) (g n cap : Nat) (rs : List Rw) : Prop where
  blk : Blk w mb vs 61
  at4 : vs[4]? = some (.slice (some ⟨g, 0, none⟩) n cap)
  own : w.ownsRow 0 91 3 (.slice (some ⟨g, 0, none⟩) n cap) n (rows3 rs)
  len : rs.length = n
  ne : g ≠ mb

theorem Nodes.kept {S : Nat → Prop} {w w' : World} {mb : Nat} {vs : List Value} {g n cap : Nat} {rs : List Rw} (h : Nodes w mb vs g n cap rs) (k : Kept S w w') (h1 : ¬ S mb) (h2 : ¬ S g) : Nodes w' mb vs g n cap rs :=
  ⟨Blk.keep k h.blk h1, h.at4, k.row h.own (fun b hb => by simp only [Value.ownBlock, Option.some.injEq] at hb; subst hb; exact h2), h.len, h.ne⟩

theorem Nodes.cell {w : World} {mb : Nat} {vs : List Value} {g n cap : Nat} {rs : List Rw} (h : Nodes w mb vs g n cap rs) : w.cell? ⟨mb, 4, none⟩ = some (.slice (some ⟨g, 0, none⟩) n cap) := by
  rw [h.blk.cell, h.at4]

theorem Nodes.row {w : World} {mb : Nat} {vs : List Value} {g n cap : Nat} {rs : List Rw} (h : Nodes w mb vs g n cap rs) {i : Nat} (hi : i < n) :
    w.cell? ⟨g, i * 3, none⟩ = some (.int .i64 (rw rs i).f) ∧ w.cell? ⟨g, i * 3 + 1, none⟩ = some (.int .i64 (rw rs i).k) ∧ w.cell? ⟨g, i * 3 + 2, none⟩ = some (.int .i64 (rw rs i).m) := by
  have hl := h.len
  have e := rw_some (rs := rs) (n := i) (by omega)
  refine ⟨?_, ?_, ?_⟩
  · rw [h.own.cellAt _ (by omega), show i * 3 = i * 3 + 0 by omega, rows3_get _ _ _ (by omega), e]; rfl
  · rw [h.own.cellAt _ (by omega), rows3_get _ _ _ (by omega), e]; rfl
  · rw [h.own.cellAt _ (by omega), rows3_get _ _ _ (by omega), e]; rfl

theorem Nodes.lt {w : World} {mb : Nat} {vs : List Value} {g n cap : Nat} {rs : List Rw} (h : Nodes w mb vs g n cap rs) : mb < w.heap.size ∧ g < w.heap.size :=
  ⟨h.blk.lt, (h.own.lt g rfl).2⟩

/-- A row is written. -/
theorem Nodes.set {w : World} {mb : Nat} {vs : List Value} {g n cap : Nat} {rs : List Rw} (h : Nodes w mb vs g n cap rs) {i : Nat} (hi : i < n) (r : Rw) :
    Nodes (((w.setCell ⟨g, i * 3, none⟩ (.int .i64 r.f)).setCell ⟨g, i * 3 + 1, none⟩ (.int .i64 r.k)).setCell ⟨g, i * 3 + 2, none⟩ (.int .i64 r.m)) mb vs g n cap (rs.set i r) := by
  have k : ∀ (w : World) (o : Nat) (u : Value), Kept (· = g) w (w.setCell ⟨g, o, none⟩ u) := fun w o u => Kept.setIn (S := (· = g)) (Kept.refl _ _) _ _ rfl _
  have hk := ((k w (i * 3) (.int .i64 r.f)).trans (k _ (i * 3 + 1) (.int .i64 r.k))).trans (k _ (i * 3 + 2) (.int .i64 r.m))
  refine ⟨Blk.keep hk h.blk (Ne.symm h.ne), h.at4, ?_, by rw [List.length_set]; exact h.len, h.ne⟩
  rw [← rows3_set rs i r (by rw [h.len]; exact hi)]
  exact (((h.own.stored (i * 3) (.int .i64 r.f)).1.stored (i * 3 + 1) (.int .i64 r.k)).1.stored (i * 3 + 2) (.int .i64 r.m)).1

theorem Nodes.kset {S : Nat → Prop} {w W : World} (k : Kept S w W) (g : Nat) (hg : S g) (o1 o2 o3 : Nat) (u1 u2 u3 : Value) : Kept S w (((W.setCell ⟨g, o1, none⟩ u1).setCell ⟨g, o2, none⟩ u2).setCell ⟨g, o3, none⟩ u3) :=
  ((k.setIn _ _ hg _).setIn _ _ hg _).setIn _ _ hg _

set_option maxRecDepth 100000 in
theorem st_leaves {w : World} {mb n : Nat} {a : Option Addr} {cap : Nat} (hc : w.cell? ⟨mb, 4, none⟩ = some (.slice a n cap)) (hn : n ≤ 400000) :
    Calls Try.prog 43 #[.pointer (some ⟨mb, 4, none⟩)] w fun e w' => e = .returned (.int .i64 ((n / 2 : Nat) : Int)) ∧ w' = w := by
  have hq : (n : Int).tdiv 2 = ((n / 2 : Nat) : Int) := by rw [Int.tdiv_eq_ediv_of_nonneg (by omega)]; omega
  go_enter Try.func43, Try.ntmps43
  go_wp2
  go_ret
  exact ⟨rfl, rfl⟩

end Go.Proofs.Ytfoacgdahonapaa
