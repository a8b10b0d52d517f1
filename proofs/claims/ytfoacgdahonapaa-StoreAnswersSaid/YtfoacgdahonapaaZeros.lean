/- Fresh pages: 'append(s, make(..)..)' onto a slice that is owned, with where the new slice lies. -/
import Derived.Test.YtfoacgdahonapaaFind
import Derived.Lib.AppendZerosOnto
namespace Go.Proofs.Ytfoacgdahonapaa
open Go.RowKit Abs Tree
set_option linter.unusedVariables false

/-- A page's zero value. -/
def zeroPage : Value := .agg #[.int .i64 0, .int .i64 0, .int .i64 0, .int .i64 0, .int .i64 0, .int .i64 0, .int .i64 0, .int .i64 0, .int .i64 0, .int .i64 0, .int .i64 0, .int .i64 0, .int .i64 0, .int .i64 0, .int .i64 0, .int .i64 0]

theorem infoPage : (Try.prog.info? 84).map (fun i => (i.zero, i.size, i.bytes)) = some (some zeroPage, 16, 128) := by kernel_rfl

theorem zeros_page (k : Nat) : Builtin.zeroCells zeroPage.cells k = (List.replicate (k * 16) (Value.int .i64 0)).toArray := by
  have hz : zeroPage.cells.toList = List.replicate 16 (Value.int .i64 0) := rfl
  have hs : zeroPage.cells.size = 16 := rfl
  apply Array.ext
  · simp [Builtin.zeroCells, hs]
  · intro i h1 h2
    simp only [Builtin.zeroCells, Array.getElem_map, Array.getElem_range, List.getElem_toArray, List.getElem_replicate, hs]
    have h3 : i % 16 < 16 := Nat.mod_lt _ (by omega)
    have h4 : i % 16 < zeroPage.cells.size := by rw [hs]; exact h3
    rw [getElem!_pos zeroPage.cells (i % 16) h4, ← Array.getElem_toList]
    simp only [hz, List.getElem_replicate]

theorem append_zeros (w : World) (ty : TypeId) (v : Value) (n : Nat) (xs : List Value) (hown : w.ownsRow 0 84 16 v n xs) (k : Nat) (hk : 0 < k) (hb : n + k ≤ 1000000) :
    ∃ g cap w', (Builtin.append_ #[54, 3] ty #[v, .int .i64 (k : Int)]).run Try.prog w = .ok (.slice (some ⟨g, 0, none⟩) (n + k) cap) w' ∧
      w'.ownsRow 0 84 16 (.slice (some ⟨g, 0, none⟩) (n + k) cap) (n + k) (xs ++ List.replicate (k * 16) (Value.int .i64 0)) ∧ w.grownBy w' v.ownBlock ∧ (v.ownBlock = some g ∨ g = w.heap.size) := by
  obtain ⟨i0, hi0, hz0, hz1, hz2⟩ := info_parts infoPage
  have hlen : (xs ++ List.replicate (k * 16) (Value.int .i64 0)).length = (n + k) * 16 := by rw [List.length_append, hown.1, List.length_replicate]; omega
  have grown : ∀ (old : Nat), old < n + k → ∀ (row : Option Nat),
      (w.drew.alloc (.cells (xs.toArray ++ (List.replicate (k * 16) (Value.int .i64 0)).toArray ++ Builtin.zeroCells zeroPage.cells (grownCap w (n + k) old 84 - (n + k))) 84)).ownsRow 0 84 16
        (.slice (some ⟨w.heap.size, 0, none⟩) (n + k) (grownCap w (n + k) old 84)) (n + k) (xs ++ List.replicate (k * 16) (Value.int .i64 0)) ∧
      w.grownBy (w.drew.alloc (.cells (xs.toArray ++ (List.replicate (k * 16) (Value.int .i64 0)).toArray ++ Builtin.zeroCells zeroPage.cells (grownCap w (n + k) old 84 - (n + k))) 84)) row := by
    intro old ho row
    have hge := grownCap_ge w (n + k) old 84
    have hcm := grownCap_le_maxLen w (n + k) old 84 (by unfold maxLen; omega)
    refine ⟨⟨hlen, .inr ⟨w.heap.size, _, _, rfl, Nat.zero_le _, heap_alloc_new w.drew _, hge, hcm, ?_, ?_⟩⟩, ⟨rfl, rfl, rfl, by simp, fun j hj _ => Below.heap_alloc w.drew _ j hj⟩⟩
    · rw [zeros_page]
      simp only [Array.size_append, List.size_toArray, List.length_replicate, hown.1]
      omega
    · simp only [Array.toList_append, List.append_assoc]
      rw [← List.append_assoc, ← hlen]
      exact List.take_left
  rcases hown.2 with ⟨rfl, rfl⟩ | ⟨g, cap, cur, rfl, _, hg, hnc, hcm, hcs, htake⟩
  · have hx : xs = [] := List.eq_nil_of_length_eq_zero (by simpa using hown.1)
    subst hx
    have hr := Lib.run_append_nil_zeros (P := Try.prog) w 54 3 ty 84 i0 zeroPage .i64 .i64 Try.underlying54 Try.underlying3 hi0 hz0 k hk (by rw [hz1]; omega) (by omega) (by rw [hz2]; omega)
    have hgr := grown 0 (by omega) (Value.ownBlock (.slice none 0 0))
    simp only [Nat.zero_add, List.nil_append, Array.empty_append] at hgr ⊢
    rw [zeros_page k] at hr
    exact ⟨_, _, _, hr, hgr.1, hgr.2, .inr rfl⟩
  · by_cases hroom : n + k ≤ cap
    · have hw : IntKind.i64.wrap (k : Int) = k := by rw [IntKind.wrap_i64]; omega
      have hneg : ¬ ((k : Int) < 0) := by omega
      have h48i : ¬ (281474976710656 < (k : Int) * 128) := by omega
      have hns : ¬ (k * 16 = 0) := by omega
      have hst := run_storeCells_at Try.prog g (n * 16) 84 (List.replicate (k * 16) (Value.int .i64 0)) 0 cur w hg (by rw [List.length_replicate, hcs]; omega) (by intro v hv; rw [List.eq_of_mem_replicate hv]; rfl)
      simp only [Nat.add_zero] at hst
      have hr : (Builtin.append_ #[54, 3] ty #[.slice (some ⟨g, 0, none⟩) n cap, .int .i64 (k : Int)]).run Try.prog w =
          .ok (.slice (some ⟨g, 0, none⟩) (n + k) cap) (w.setRow g (cur.toList.take (n * 16) ++ List.replicate (k * 16) (Value.int .i64 0) ++ cur.toList.drop (n * 16 + (List.replicate (k * 16) (Value.int .i64 0)).length)).toArray) := by
        simp [Builtin.append_, run_underlying Try.underlying54, run_underlying Try.underlying3, sizeOf, typeInfo, zeroValue, hi0, hz0, hz1, hz2, asInt, asIntOf, hw, hneg, h48i, hns, hroom, zeros_page, Addr.add_lit]
        simp at hst
        rw [hst]
        rfl
      refine ⟨g, cap, _, hr, ⟨hlen, .inr ⟨g, cap, _, rfl, Nat.zero_le _, setRow_heap w g cur _ _ _ hg, hroom, hcm, ?_, ?_⟩⟩, ⟨rfl, rfl, rfl, by simp, fun j _ hj => setRow_other w g j _ (fun e => hj (by simp [Value.ownBlock, e]))⟩, .inl rfl⟩
      · simp only [List.size_toArray, List.length_append, List.length_take, List.length_drop, Array.length_toList, List.length_replicate]
        omega
      · rw [htake, ← hlen]
        exact List.take_left
    · have holds : ∀ j u, xs[j]? = some u → w.cell? ((⟨g, 0, none⟩ : Addr).add j) = some u := hown.cells (g := g) rfl
      have hfc := run_firstCells_some (P := Try.prog) w.drew i0.size n ⟨g, 0, none⟩ n cap xs (by rw [hz1]; exact hown.1) (by simpa using holds)
      have hr := Lib.run_append_grow_zeros (P := Try.prog) w 54 3 ty 84 i0 zeroPage .i64 .i64 Try.underlying54 Try.underlying3 hi0 hz0 (some ⟨g, 0, none⟩) n cap xs hfc k hk (by rw [hz1]; omega) (by omega) (by omega) (by rw [hz2]; omega) (growslice_fits (by omega) (by rw [hz2]; omega))
      have hgr := grown cap (by omega) (Value.ownBlock (.slice (some ⟨g, 0, none⟩) n cap))
      rw [zeros_page k] at hr
      exact ⟨_, _, _, hr, hgr.1, hgr.2, .inr rfl⟩

/-- At the operation. -/
theorem wpList_fresh (w : World) {ops : Array Oper} {rest : List Oper} {o : Oper} {a : Act} {Q : Exit → Act → World → Prop} (hgd : o.guard = none) (s x : Operand)
    (ho : o.op = .call { callee := .builtin .append, args := #[s, x], argTypes := #[54, 3] }) (v : Value) (n k : Nat) (xs : List Value) (hs : a.eval s = v) (hx : a.eval x = .int .i64 (k : Int))
    (hown : w.ownsRow 0 84 16 v n xs) (hk : 0 < k) (hb : n + k ≤ 1000000)
    (h : ∀ g cap w', w'.ownsRow 0 84 16 (.slice (some ⟨g, 0, none⟩) (n + k) cap) (n + k) (xs ++ List.replicate (k * 16) (Value.int .i64 0)) → w.grownBy w' v.ownBlock → (v.ownBlock = some g ∨ g = w.heap.size) →
      wpList Try.prog ops Q rest (a.put o.dst (.slice (some ⟨g, 0, none⟩) (n + k) cap)) w') : wpList Try.prog ops Q (o :: rest) a w := by
  obtain ⟨g, cap, w', hr, h2, h3, h4⟩ := append_zeros w o.type v n xs hown k hk hb
  exact Lib.wpList_append_run w hgd s x _ _ ho v _ hs hx _ w' hr (h g cap w' h2 h3 h4)

end Go.Proofs.Ytfoacgdahonapaa
