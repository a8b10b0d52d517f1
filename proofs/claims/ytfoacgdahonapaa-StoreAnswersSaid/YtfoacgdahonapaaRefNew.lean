/- The reference's empty store. -/
import Derived.Test.YtfoacgdahonapaaRefUnmade
namespace Go.Proofs.Ytfoacgdahonapaa
open Go.RowKit Abs
set_option linter.unusedVariables false

set_option maxRecDepth 100000 in
theorem ref_new (w : World) :
    Calls Try.prog 10 #[] w fun e w' => e = .returned (.agg #[.slice none 0 0, .slice none 0 0, .slice none 0 0, .slice none 0 0, .slice none 0 0, .slice none 0 0, .slice none 0 0, .slice none 0 0]) ∧ Kept Nil w w' := by
  go_enter Try.func10, Try.ntmps10
  go_wp2
  refine bodyPost_ret (v := .agg #[.slice none 0 0, .slice none 0 0, .slice none 0 0, .slice none 0 0, .slice none 0 0, .slice none 0 0, .slice none 0 0, .slice none 0 0]) (by simp [results, go_sem]) rfl ?_
  exact ⟨rfl, Kept.alloc (Kept.refl _ _) _⟩

/-- Eight slices that are nil. -/
def nils : List Value := List.replicate 8 (.slice none 0 0)

theorem nils_at {i : Nat} {v : Value} (h : nils[i]? = some v) : i < 8 ∧ v = .slice none 0 0 := by
  unfold nils at h
  rw [List.getElem?_replicate] at h
  split at h
  · rename_i hi; exact ⟨hi, by simpa using h.symm⟩
  · cases h

/-- A block that holds the struct with no field set is the empty store. -/
theorem ref_empty {w : World} {g : Nat} (h : Blk w g nils 31) : RefAt w ⟨g, 0, none⟩ ASt.empty (recF g nils) := by
  refine ⟨g, nils, [], [], rfl, rfl, by simp [nils], ⟨h, ?_, by simp [nils, refRows], ?_, ?_⟩, ?_⟩
  · intro i v e xs hv hr
    obtain ⟨hi, rfl⟩ := nils_at hv
    have hx : xs = [] := by
      have : i = 0 ∨ i = 1 ∨ i = 2 ∨ i = 3 ∨ i = 4 ∨ i = 5 ∨ i = 6 ∨ i = 7 := by omega
      rcases this with rfl | rfl | rfl | rfl | rfl | rfl | rfl | rfl <;> simp [refRows, openedL, curL, fillL, ownL, ASt.empty, ints] at hr <;> first | exact hr.2 | exact hr.2.symm
    subst hx
    exact ⟨rfl, .inl ⟨rfl, rfl⟩⟩
  · intro i j v u k hv hu hk
    obtain ⟨_, rfl⟩ := nils_at hv
    cases hk
  · intro i v hv
    obtain ⟨_, rfl⟩ := nils_at hv
    intro hk
    cases hk
  · exact ⟨rfl, rfl, fun x hx => (by cases hx), fun x hx => (by cases hx), rfl, fun c hc => (by cases hc)⟩
end Go.Proofs.Ytfoacgdahonapaa
