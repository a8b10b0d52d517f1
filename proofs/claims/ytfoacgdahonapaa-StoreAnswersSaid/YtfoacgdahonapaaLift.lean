/- From a law's walk to the given statement: the calls read out of memory; what was there is as it was. -/
import Derived.Test.YtfoacgdahonapaaMain
import Derived.Deep.Slices
import Derived.ProofKit
import Derived.SizedLaws
namespace Go.Proofs.Ytfoacgdahonapaa
open Go.ChangeShapes Go.WideShapes Go.ChangeAt Go.RowKit
set_option linter.unusedVariables false

theorem ownK : ownKnob Try.prog.godebug = none := by kernel_rfl
theorem laidOutK : laidOutB Try.prog = true := by kernel_rfl
theorem cellsOp : Try.prog.cellsOf 34 = 6 := by kernel_rfl
theorem cellsInt : Try.prog.cellsOf 3 = 1 := by kernel_rfl
theorem cellsI64 : Try.prog.cellsOf 2 = 1 := by kernel_rfl
theorem cellsU8 : Try.prog.cellsOf 5 = 1 := by kernel_rfl

theorem i64_wf {n : Int} (h : (Lit.int .i64 n).wf = true) : I64 n := by
  have h1 : IntKind.i64.min = -9223372036854775808 := rfl
  have h2 : IntKind.i64.max = 9223372036854775807 := rfl
  simp only [Lit.wf, Bool.and_eq_true, decide_eq_true_eq] at h
  unfold I64; omega

theorem u8_wf {n : Int} (h : (Lit.int .u8 n).wf = true) : 0 ≤ n ∧ n ≤ 255 := by
  have h1 : IntKind.u8.min = 0 := rfl
  have h2 : IntKind.u8.max = 255 := rfl
  simp only [Lit.wf, Bool.and_eq_true, decide_eq_true_eq] at h
  omega

theorem one_of {cs : List Value} {j : Nat} (h : cs.length = 6) (hj : j < 6) : ∃ v, (cs.drop j).take 1 = [v] ∧ cs[j]? = some v := by
  refine ⟨cs[j]'(by omega), ?_, List.getElem?_eq_getElem _⟩
  rw [List.drop_eq_getElem_cons (by omega)]; rfl

/-- The calls, read. -/
theorem ops_of {H : Type} {enc : TypeId × Value → H} {W : World} {ao : Option Addr} {n cap : Nat} {fuel : Nat} {x : DataW H × List MemPlace}
    (h : DataW.trod enc Try.prog W 0 (fun _ => true) true fuel 22 [.slice ao n cap] = some x) :
    n ≤ maxLen ∧ n ≤ cap ∧ ∃ b off l, OpsAt W b off l ∧ l.length = n ∧ (0 < n → ao = some ⟨b, off, none⟩) := by
  rcases Deep.open_slice Try.underlying22 h with ⟨hcs, _⟩ | ⟨a, len, cap', m, f, D, Pl, hcs, _, hl, hm, hmm, _, hi⟩
  · simp only [List.cons.injEq, Value.slice.injEq, and_true] at hcs
    obtain ⟨_, rfl, rfl⟩ := hcs
    exact ⟨by unfold maxLen; omega, Nat.le_refl _, 0, 0, [], fun i o ho => by simp at ho, rfl, fun h0 => by omega⟩
  · simp only [List.cons.injEq, Value.slice.injEq, and_true] at hcs
    obtain ⟨rfl, rfl, rfl⟩ := hcs
    simp only [if_true] at hmm
    refine ⟨by omega, hl, ?_⟩
    have key : ∀ i, i < n → ∃ o : OpV, o.Ok ∧ W.cell? (a.add (i * 6 + 0)) = some (.int .u8 o.d) ∧ W.cell? (a.add (i * 6 + 1)) = some (.int .i64 o.r) ∧ W.cell? (a.add (i * 6 + 2)) = some (.int .i64 o.n) ∧
        W.cell? (a.add (i * 6 + 3)) = some (.int .i64 o.a) ∧ W.cell? (a.add (i * 6 + 4)) = some (.int .i64 o.f) ∧ W.cell? (a.add (i * 6 + 5)) = some (.int .i64 o.v) := by
      intro i hin
      obtain ⟨cs', hc, ht⟩ := hi i (by omega)
      rw [cellsOp] at hc
      obtain ⟨_, hlen, hat⟩ := World.cells?_some hc
      obtain ⟨ys, n', _, _, _, hyl, hf⟩ := DataW.trod_struct Try.underlying34 ht
      have fld : ∀ (j : Nat) (T : TypeId) (k : IntKind), j < 6 → Try.prog.cellsOf T = 1 → Try.prog.underlying T = some (.int k) → (∃ y, DataW.trod enc Try.prog W 0 (fun _ => true) true n' T (List.take (Try.prog.cellsOf T) (List.drop j cs')) = some y) →
          ∃ z, W.cell? (a.add (i * 6 + j)) = some (.int k z) ∧ (Lit.int k z).wf = true := by
        intro j T k hj hc1 hu ⟨y, hy⟩
        obtain ⟨v, hv1, hv2⟩ := one_of hlen hj
        rw [hc1, hv1] at hy
        obtain ⟨z, hz, _, hw⟩ := DataW.trod_int hu hy
        simp only [List.cons.injEq, and_true] at hz
        subst hz
        have := hat j hj
        rw [hv2, Deep.add_add] at this
        exact ⟨z, this, hw⟩
      have get : ∀ j, j < 6 → ∃ y, ys[j]? = some y := fun j hj => ⟨ys[j]'(by rw [hyl]; exact hj), List.getElem?_eq_getElem _⟩
      obtain ⟨z0, c0, w0⟩ := fld 0 5 .u8 (by omega) cellsU8 Try.underlying5 (by obtain ⟨y, hy⟩ := get 0 (by omega); exact ⟨y, (hf 0 _ rfl).trans hy⟩)
      obtain ⟨z1, c1, w1⟩ := fld 1 3 .i64 (by omega) cellsInt Try.underlying3 (by obtain ⟨y, hy⟩ := get 1 (by omega); exact ⟨y, (hf 1 _ rfl).trans hy⟩)
      obtain ⟨z2, c2, w2⟩ := fld 2 3 .i64 (by omega) cellsInt Try.underlying3 (by obtain ⟨y, hy⟩ := get 2 (by omega); exact ⟨y, (hf 2 _ rfl).trans hy⟩)
      obtain ⟨z3, c3, w3⟩ := fld 3 3 .i64 (by omega) cellsInt Try.underlying3 (by obtain ⟨y, hy⟩ := get 3 (by omega); exact ⟨y, (hf 3 _ rfl).trans hy⟩)
      obtain ⟨z4, c4, w4⟩ := fld 4 3 .i64 (by omega) cellsInt Try.underlying3 (by obtain ⟨y, hy⟩ := get 4 (by omega); exact ⟨y, (hf 4 _ rfl).trans hy⟩)
      obtain ⟨z5, c5, w5⟩ := fld 5 2 .i64 (by omega) cellsI64 Try.underlying2 (by obtain ⟨y, hy⟩ := get 5 (by omega); exact ⟨y, (hf 5 _ rfl).trans hy⟩)
      exact ⟨⟨z0, z1, z2, z3, z4, z5⟩, ⟨(u8_wf w0).1, (u8_wf w0).2, i64_wf w1, i64_wf w2, i64_wf w3, i64_wf w4, i64_wf w5⟩, c0, c1, c2, c3, c4, c5⟩
    by_cases h0 : n = 0
    · subst h0
      exact ⟨0, 0, [], fun i o ho => by simp at ho, rfl, fun h0 => by omega⟩
    · obtain ⟨b, off, spot⟩ := a
      have hspot : spot = none := by
        obtain ⟨o, _, c, _⟩ := key 0 (by omega)
        simpa [Addr.add] using World.cell?_spot c
      subst hspot
      have hall : ∀ m, m ≤ n → ∃ l : List OpV, OpsAt W b off l ∧ l.length = m := by
        intro m
        induction m with
        | zero => intro _; exact ⟨[], fun i o ho => by simp at ho, rfl⟩
        | succ m ih =>
          intro hm
          obtain ⟨l, hl1, hl2⟩ := ih (by omega)
          obtain ⟨o, hok, c0, c1, c2, c3, c4, c5⟩ := key m (by omega)
          have ad : ∀ j, (⟨b, off, none⟩ : Addr).add j = ⟨b, off + j, none⟩ := fun j => by unfold Addr.add; split <;> simp_all
          rw [ad] at c0 c1 c2 c3 c4 c5
          refine ⟨l ++ [o], ?_, by simp [hl2]⟩
          intro i o' ho'
          by_cases hi : i < l.length
          · rw [List.getElem?_append_left hi] at ho'
            exact hl1 i o' ho'
          · have : i = l.length := by
              have := (List.getElem?_eq_some_iff.1 ho').1
              simp at this; omega
            subst this
            simp at ho'
            subst ho'
            rw [hl2]
            exact ⟨hok, c0, c1, c2, c3, c4, c5⟩
      obtain ⟨l, hl1, hl2⟩ := hall n (Nat.le_refl _)
      exact ⟨b, off, l, hl1, hl2, fun _ => rfl⟩

end Go.Proofs.Ytfoacgdahonapaa
