/- The program's two maps: what they hold, key by key; the operations on them. -/
import Derived.Test.YtfoacgdahonapaaWords
import Derived.Maps.OwnSet
namespace Go.Proofs.Ytfoacgdahonapaa
open Go.RowKit Abs Tree Go.Maps
set_option linter.unusedVariables false

/-- How a pointer to a block's head reads. -/
def rp : Value → Option (DataW Unit × List MemPlace)
  | .pointer none => some (.lit (.bool false), [])
  | .pointer (some ⟨n, 0, none⟩) => some (.lit (.int .i64 n), [])
  | _ => none

theorem rp_int {v : Value} {n : Nat} {ps : List MemPlace} (h : rp v = some (.lit (.int .i64 n), ps)) : v = .pointer (some ⟨n, 0, none⟩) := by
  unfold rp at h
  split at h
  · simp at h
  · rename_i m
    simp only [Option.some.injEq, Prod.mk.injEq, DataW.lit.injEq, Lit.int.injEq, true_and] at h
    have := h.1
    have e : m = n := by omega
    rw [e]
  · cases h

theorem rp_nil {v : Value} {ps : List MemPlace} (h : rp v = some (.lit (.bool false), ps)) : v = .pointer none := by
  unfold rp at h
  split at h
  · rfl
  · simp at h
  · cases h

/-- A number as the map's reader has it. -/
def natD (x : Nat) : DataW Unit := .lit (.int .i64 (x : Int))

/-- A map in block b, of at most n entries: at each key what f says. -/
def MapF (R : Value → Option (DataW Unit × List MemPlace)) (zd : DataW Unit) (w : World) (b n : Nat) (f : Int → Option Nat) : Prop :=
  ∃ D, w.ownsMap Try.prog 3 R b n D ∧ ∀ k, I64 k → has D (.int .i64 k) = (f k).isSome ∧ D.atKey (.int .i64 k) zd = ((f k).map natD).getD zd

abbrev nilD : DataW Unit := .lit (.bool false)
abbrev zeroD : DataW Unit := .lit (.int .i64 0)

theorem kkey {k : Int} (h : I64 k) : keyOf Try.prog 3 (.int .i64 k) = some (.int .i64 k) := keyOf_int_mk Try.underlying3 (by
  obtain ⟨h1, h2⟩ := h
  exact WalkArith.wf_i64 (by omega))

theorem klaw : Keyed Try.prog 3 := int_keyed Try.underlying3

theorem MapF.lt {R : Value → Option (DataW Unit × List MemPlace)} {zd : DataW Unit} {w : World} {b n : Nat} {f : Int → Option Nat} (h : MapF R zd w b n f) : b < w.heap.size := by
  obtain ⟨D, h1, _⟩ := h
  exact h1.lt

theorem MapF.frame {R : Value → Option (DataW Unit × List MemPlace)} {zd : DataW Unit} {w w' : World} {b n : Nat} {f : Int → Option Nat} (h : MapF R zd w b n f) (hb : w'.heap[b]? = w.heap[b]?) : MapF R zd w' b n f := by
  obtain ⟨D, ⟨es, clock, h1, h2⟩, h3⟩ := h
  exact ⟨D, ⟨es, clock, hb.trans h1, h2⟩, h3⟩

theorem MapF.made {R : Value → Option (DataW Unit × List MemPlace)} {zd : DataW Unit} (w : World) : MapF R zd (w.alloc (.map #[] 0)) w.heap.size 0 (fun _ => none) :=
  ⟨_, World.ownsMap_made w _ _ _, fun k _ => ⟨rfl, rfl⟩⟩

theorem MapF.put {R : Value → Option (DataW Unit × List MemPlace)} {zd : DataW Unit} {w' : World} {b n : Nat} {f : Int → Option Nat} {D : DataW Unit} (hm : IsMap D) (hf : ∀ k, I64 k → has D (.int .i64 k) = (f k).isSome ∧ D.atKey (.int .i64 k) zd = ((f k).map natD).getD zd)
    {k : Int} {x : Nat} (ho : w'.ownsMap Try.prog 3 R b (n + 1) (D.put (.int .i64 k) (.lit (.int .i64 (x : Int))))) : MapF R zd w' b (n + 1) (fun j => if j = k then some x else f j) := by
  refine ⟨_, ho, fun j hj => ?_⟩
  dsimp only
  by_cases e : j = k
  · subst e
    have ik : WideAt.IsKeyLit (.int .i64 j) := trivial
    rw [if_pos rfl, has_put_same hm ik, atKey_put_same hm ik]
    exact ⟨rfl, rfl⟩
  · have hne : (Lit.int .i64 j) ≠ (.int .i64 k) := fun e2 => e (by simpa using e2)
    rw [if_neg e, has_put_other hne, atKey_put_other hne]
    exact hf j hj

theorem MapF.del {R : Value → Option (DataW Unit × List MemPlace)} {zd : DataW Unit} {w' : World} {b n : Nat} {f : Int → Option Nat} {D : DataW Unit} (hf : ∀ k, I64 k → has D (.int .i64 k) = (f k).isSome ∧ D.atKey (.int .i64 k) zd = ((f k).map natD).getD zd)
    {k : Int} (ho : w'.ownsMap Try.prog 3 R b n (D.del (.int .i64 k))) : MapF R zd w' b n (fun j => if j = k then none else f j) := by
  refine ⟨_, ho, fun j hj => ?_⟩
  dsimp only
  by_cases e : j = k
  · subst e
    rw [if_pos rfl, has_del_same, atKey_del_same]
    exact ⟨rfl, rfl⟩
  · have hne : (Lit.int .i64 j) ≠ (.int .i64 k) := fun e2 => e (by simpa using e2)
    rw [if_neg e, has_del_other hne, atKey_del_other hne]
    exact hf j hj

/-- A key's block, as a pointer. -/
def ptrOf : Option Nat → Value
  | none => .pointer none
  | some x => .pointer (some ⟨x, 0, none⟩)

theorem MapF.lookP {w : World} {b n : Nat} {f : Int → Option Nat} (h : MapF rp nilD w b n f) {k : Int} (hk : I64 k) :
    (Instr.lookup 53 (.map (some b)) (.int .i64 k) false).run Try.prog w = .ok (ptrOf (f k)) w := by
  obtain ⟨D, ho, hf⟩ := h
  have hz : (zeroValue 64).run Try.prog w = .ok (.pointer none) w := by kernel_rfl
  obtain ⟨v, ps, hr, hv⟩ := ho.lookup klaw Try.underlying53 hz (zd := nilD) (zp := []) rfl (kkey hk)
  rw [hr]
  rw [(hf k hk).2] at hv
  cases hfk : f k with
  | none => rw [hfk] at hv; rw [rp_nil hv]; rfl
  | some x => rw [hfk] at hv; rw [rp_int hv]; rfl

theorem MapF.lookI {w : World} {b n : Nat} {f : Int → Option Nat} (h : MapF (plainElem Try.prog 3) zeroD w b n f) {k : Int} (hk : I64 k) :
    (Instr.lookup 65 (.map (some b)) (.int .i64 k) true).run Try.prog w = .ok (.tuple #[.int .i64 (((f k).getD 0 : Nat) : Int), .bool (f k).isSome]) w := by
  obtain ⟨D, ho, hf⟩ := h
  have hz : (zeroValue 3).run Try.prog w = .ok (.int .i64 0) w := by kernel_rfl
  obtain ⟨v, ps, hr, hv⟩ := ho.look_ok klaw Try.underlying65 hz (zd := zeroD) (zp := []) (plainElem_int Try.underlying3 (by decide)) (kkey hk)
  rw [hr, (hf k hk).1]
  rw [(hf k hk).2] at hv
  obtain ⟨c, rfl, hc, _⟩ := plainElem_int_inv Try.underlying3 hv
  have hc1 := congrArg Prod.fst hc
  cases hfk : f k with
  | none =>
    rw [hfk] at hc1
    simp only [Option.map_none, Option.getD_none, DataW.lit.injEq, Lit.int.injEq, true_and] at hc1
    rw [← hc1]; rfl
  | some x =>
    rw [hfk] at hc1
    simp only [Option.map_some, Option.getD_some, natD, DataW.lit.injEq, Lit.int.injEq, true_and] at hc1
    rw [← hc1]; rfl

/-- A store into the map of regions. -/
theorem wpList_putP (w : World) {ops : Array Oper} {rest : List Oper} {o : Oper} {a : Act} {Q : Exit → Act → World → Prop} (hg : o.guard = none) (m x v : Operand) (hop : o.op = Op.mapUpdate 53 m x v)
    {b n : Nat} {f : Int → Option Nat} (h : MapF rp nilD w b n f) (hn : n < 1000000) {k : Int} (hk : I64 k) {y : Nat} (hm : a.eval m = .map (some b)) (hx : a.eval x = .int .i64 k) (hv : a.eval v = .pointer (some ⟨y, 0, none⟩))
    (hK : ∀ w', MapF rp nilD w' b (n + 1) (fun j => if j = k then some y else f j) → w.grownBy w' (some b) → wpList Try.prog ops Q rest (a.put o.dst undef) w') : wpList Try.prog ops Q (o :: rest) a w := by
  obtain ⟨D, ho, hf⟩ := h
  refine wpList_mapUpdate_own w hg m x v _ hop _ _ klaw Try.underlying53 rp b n D hm ho (by unfold maxLen; omega) _ _ _ hx hv (kkey hk) (.lit (.int .i64 (y : Int))) [] rfl (fun w' h1 h2 => hK w' (MapF.put ho.isMap hf h1) h2)

/-- A store into a region's map of cells. -/
theorem wpList_putI (w : World) {ops : Array Oper} {rest : List Oper} {o : Oper} {a : Act} {Q : Exit → Act → World → Prop} (hg : o.guard = none) (m x v : Operand) (hop : o.op = Op.mapUpdate 65 m x v)
    {b n : Nat} {f : Int → Option Nat} (h : MapF (plainElem Try.prog 3) zeroD w b n f) (hn : n < 1000000) {k : Int} (hk : I64 k) {y : Nat} (hy : y ≤ 1000000) (hm : a.eval m = .map (some b)) (hx : a.eval x = .int .i64 k) (hv : a.eval v = .int .i64 (y : Int))
    (hK : ∀ w', MapF (plainElem Try.prog 3) zeroD w' b (n + 1) (fun j => if j = k then some y else f j) → w.grownBy w' (some b) → wpList Try.prog ops Q rest (a.put o.dst undef) w') : wpList Try.prog ops Q (o :: rest) a w := by
  obtain ⟨D, ho, hf⟩ := h
  refine wpList_mapUpdate_own w hg m x v _ hop _ _ klaw Try.underlying65 (plainElem Try.prog 3) b n D hm ho (by unfold maxLen; omega) _ _ _ hx hv (kkey hk) (.lit (.int .i64 (y : Int))) [] (plainElem_int Try.underlying3 (WalkArith.wf_i64 (by omega))) (fun w' h1 h2 => hK w' (MapF.put ho.isMap hf h1) h2)

/-- A region is struck from the map of regions. -/
theorem wpList_delP (w : World) {ops : Array Oper} {rest : List Oper} {o : Oper} {a : Act} {Q : Exit → Act → World → Prop} (hg : o.guard = none) (m x : Operand) (hop : o.op = Op.call { callee := Callee.builtin Builtin.delete, args := #[m, x], argTypes := #[53, 3] })
    {b n : Nat} {f : Int → Option Nat} (h : MapF rp nilD w b n f) {k : Int} (hk : I64 k) (hm : a.eval m = .map (some b)) (hx : a.eval x = .int .i64 k)
    (hK : ∀ w', MapF rp nilD w' b n (fun j => if j = k then none else f j) → w.grownBy w' (some b) → wpList Try.prog ops Q rest (a.put o.dst (.tuple #[])) w') : wpList Try.prog ops Q (o :: rest) a w := by
  obtain ⟨D, ho, hf⟩ := h
  refine wpList_delete_own w hg m x _ _ hop _ klaw Try.underlying53 rp b n D hm ho _ _ hx (kkey hk) (fun w' h1 h2 => hK w' (MapF.del hf h1) h2.grown)

end Go.Proofs.Ytfoacgdahonapaa
