/- The rows of the tree of waiting pages as values; what 'joined' and 'leaves' of the program answer. -/
import Derived.Test.YtfoacgdahonapaaUser
import Derived.Test.YtfoacgdahonapaaTree
import Derived.Deep.CutBlock
namespace Go.Proofs.Ytfoacgdahonapaa
open Go.RowKit Abs Tree
set_option linter.unusedVariables false

/-- A row's three values. -/
def rv (r : Rw) : List Value := [.int .i64 r.f, .int .i64 r.k, .int .i64 r.m]

set_option maxRecDepth 100000 in
set_option maxHeartbeats 800000 in
theorem st_joined (w : World) (l r : Rw) (sz : Nat) (hl : l.f ≤ 200000 ∧ l.k ≤ 200000 ∧ l.m ≤ 200000) (hr : r.f ≤ 200000 ∧ r.k ≤ 200000 ∧ r.m ≤ 200000) (hs : sz ≤ 200000) :
    Calls Try.prog 50 #[.agg (rv l).toArray, .agg (rv r).toArray, .int .i64 (sz : Int)] w fun e w' => e = .returned (.agg (rv (Tree.joined l r sz)).toArray) ∧ Kept Nil w w' := by
  obtain ⟨lf, lk, lm⟩ := l
  obtain ⟨rf, rk, rm⟩ := r
  obtain ⟨l1, l2, l3⟩ := hl
  obtain ⟨r1, r2, r3⟩ := hr
  simp only at l1 l2 l3 r1 r2 r3
  simp only [rv, Tree.joined]
  have hmx : ∀ (x y z : Int) (ts : Array TypeId) (t : TypeId) (w : World), (Builtin.max_ ts t #[.int .i64 x, .int .i64 y, .int .i64 z]).run Try.prog w = .ok (.int .i64 (max (max x y) z)) w := by
    intro x y z ts t w
    have e : (if z > (if y > x then y else x) then z else (if y > x then y else x)) = max (max x y) z := by
      split <;> split <;> omega
    simp only [← e]
    simp [Builtin.max_, Builtin.max2]
  by_cases h1 : lf = sz
  · by_cases h2 : rk = sz
    · have d1 : ((lf : Int) == (sz : Int)) = true := by simp [h1]
      have d2 : ((rk : Int) == (sz : Int)) = true := by simp [h2]
      rw [if_pos h1, if_pos h2]
      clear h1 h2
      go_enter Try.func50, Try.ntmps50
      go_upto_block 2 with fail
      refine bodyPost_ret (v := .agg #[.int .i64 ((lf : Int) + rf), .int .i64 ((rk : Int) + lk), .int .i64 (max (max (lm : Int) rm) ((lk : Int) + rf))]) (by simp [results, go_sem]) rfl ⟨by simp <;> omega, ?_⟩
      exact ((((Kept.refl Nil w).alloc _).alloc _).alloc _).alloc _
    · have d1 : ((lf : Int) == (sz : Int)) = true := by simp [h1]
      have d2 : ((rk : Int) == (sz : Int)) = false := by rw [beq_eq_false_iff_ne]; omega
      rw [if_pos h1, if_neg h2]
      clear h1 h2
      go_enter Try.func50, Try.ntmps50
      go_upto_block 2 with fail
      refine bodyPost_ret (v := .agg #[.int .i64 ((lf : Int) + rf), .int .i64 ((rk : Int)), .int .i64 (max (max (lm : Int) rm) ((lk : Int) + rf))]) (by simp [results, go_sem]) rfl ⟨by simp <;> omega, ?_⟩
      exact ((((Kept.refl Nil w).alloc _).alloc _).alloc _).alloc _
  · by_cases h2 : rk = sz
    · have d1 : ((lf : Int) == (sz : Int)) = false := by rw [beq_eq_false_iff_ne]; omega
      have d2 : ((rk : Int) == (sz : Int)) = true := by simp [h2]
      rw [if_neg h1, if_pos h2]
      clear h1 h2
      go_enter Try.func50, Try.ntmps50
      go_upto_block 2 with fail
      refine bodyPost_ret (v := .agg #[.int .i64 ((lf : Int)), .int .i64 ((rk : Int) + lk), .int .i64 (max (max (lm : Int) rm) ((lk : Int) + rf))]) (by simp [results, go_sem]) rfl ⟨by simp <;> omega, ?_⟩
      exact ((((Kept.refl Nil w).alloc _).alloc _).alloc _).alloc _
    · have d1 : ((lf : Int) == (sz : Int)) = false := by rw [beq_eq_false_iff_ne]; omega
      have d2 : ((rk : Int) == (sz : Int)) = false := by rw [beq_eq_false_iff_ne]; omega
      rw [if_neg h1, if_neg h2]
      clear h1 h2
      go_enter Try.func50, Try.ntmps50
      go_upto_block 2 with fail
      refine bodyPost_ret (v := .agg #[.int .i64 ((lf : Int)), .int .i64 ((rk : Int)), .int .i64 (max (max (lm : Int) rm) ((lk : Int) + rf))]) (by simp [results, go_sem]) rfl ⟨by simp <;> omega, ?_⟩
      exact ((((Kept.refl Nil w).alloc _).alloc _).alloc _).alloc _
end Go.Proofs.Ytfoacgdahonapaa
