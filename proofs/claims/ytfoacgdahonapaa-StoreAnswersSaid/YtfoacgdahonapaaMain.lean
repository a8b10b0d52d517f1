/- What the three statements about a user share: the calls that came in, the user's beginning. -/
import Derived.Test.YtfoacgdahonapaaWith
import Derived.Test.YtfoacgdahonapaaHead
namespace Go.Proofs.Ytfoacgdahonapaa
open Go.RowKit Abs
set_option linter.unusedVariables false

/-- A call, as numbers. -/
structure OpV where
  d : Int
  r : Int
  n : Int
  a : Int
  f : Int
  v : Int

structure OpV.Ok (o : OpV) : Prop where
  d0 : 0 ≤ o.d
  d1 : o.d ≤ 255
  r : I64 o.r
  n : I64 o.n
  a : I64 o.a
  f : I64 o.f
  v : I64 o.v

/-- The calls lie there. -/
def OpsAt (w : World) (b off : Nat) (l : List OpV) : Prop :=
  ∀ i o, l[i]? = some o → o.Ok ∧ w.cell? ⟨b, off + i * 6, none⟩ = some (.int .u8 o.d) ∧ w.cell? ⟨b, off + i * 6 + 1, none⟩ = some (.int .i64 o.r) ∧ w.cell? ⟨b, off + i * 6 + 2, none⟩ = some (.int .i64 o.n) ∧
    w.cell? ⟨b, off + i * 6 + 3, none⟩ = some (.int .i64 o.a) ∧ w.cell? ⟨b, off + i * 6 + 4, none⟩ = some (.int .i64 o.f) ∧ w.cell? ⟨b, off + i * 6 + 5, none⟩ = some (.int .i64 o.v)

section
variable {SA : World → Addr → ASt → (Nat → Prop) → Prop}

/-- A call on the store that leaves it the same store, for the user. -/
theorem UserAt.now (L : StoreLaws SA) {w w' : World} {u : UData} {s : ASt} {large : Bool} {B : Nat} (h : UserAt SA w u s large B) (hn : Now SA w u.F u.sp s w') :
    ∃ F', UserAt SA w' { u with F := F' } s large B := by
  obtain ⟨F', hSA, hF, k⟩ := hn
  have lo := UserAt.lt L h
  have old : ∀ b, b < w.heap.size → ¬ u.F b → ¬ F' b := fun b hb hf hf' => (hF b hf').elim hf (by omega)
  refine ⟨F', Blk.keep k h.blk h.ubF, k.row h.opens h.ovF, k.row h.cells h.cvF, h.same, fun x hx => Blk.keep k (h.fields x hx) (h.csF x hx), hSA, ?_, h.ubOv, h.ubCv, h.ubCs, old _ (lo _ (.inl rfl)) h.ubF, h.ovCv, h.ovCs,
    fun i hi => old i (lo _ (.inr (.inl hi))) (h.ovF i hi), h.cvCs, fun i hi => old i (lo _ (.inr (.inr (.inl hi)))) (h.cvF i hi), h.csCs, fun x hx => old _ (lo _ (.inr (.inr (.inr (.inl ⟨x, hx, rfl⟩))))) (h.csF x hx)⟩
  intro i hi
  rcases hi with rfl | hi | hi | hi | hi
  · exact h.base _ (.inl rfl)
  · exact h.base _ (.inr (.inl hi))
  · exact h.base _ (.inr (.inr (.inl hi)))
  · exact h.base _ (.inr (.inr (.inr (.inl hi))))
  · rcases hF i hi with e | e
    · exact h.base _ (.inr (.inr (.inr (.inr e))))
    · have := base_le h; omega

/-- The user at its beginning. -/
theorem user_new (L : StoreLaws SA) {w w1 w2 : World} {sp : Addr} {F : Nat → Prop} (hSA : SA w1 sp ASt.empty F) (hF : ∀ k, F k → w.heap.size ≤ k) (hs : w.heap.size ≤ w1.heap.size) (k : Kept Nil w1 w2)
    (hb : Blk w2 w1.heap.size [.pointer (some sp), .int .i64 0, .slice none 0 0, .slice none 0 0, .bool false] 45) :
    UserAt SA w2 ⟨w1.heap.size, sp, .slice none 0 0, .slice none 0 0, [], F⟩ ASt.empty false w.heap.size := by
  have lF := L.lt hSA
  refine ⟨hb, World.ownsRow_nil _ _ _ _, World.ownsRow_nil _ _ _ _, rfl, by simp, L.frame hSA (fun i hi => k.block i (lF i hi) id), ?_, by simp [Value.ownBlock], by simp [Value.ownBlock], by simp, ?_, by simp [Value.ownBlock], by simp, by simp [Value.ownBlock], by simp, by simp [Value.ownBlock], by simp, by simp⟩
  · intro i hi
    rcases hi with rfl | hi | hi | ⟨x, hx, _⟩ | hi
    · exact hs
    · simp [Value.ownBlock] at hi
    · simp [Value.ownBlock] at hi
    · cases hx
    · exact hF i hi
  · intro hf; have := lF _ hf; simp only at this; omega

theorem good_step {s : ASt} {large : Bool} {d r n a f v : Int} (g : s.Good) : (step s large d r n a f v).1.Good := by
  unfold step
  split
  · exact good_opened g
  · rename_i h1
    have ho : s.opens ≠ [] := fun e => h1 (.inr e)
    have hp := pick_lt r (List.length_pos_iff.2 ho)
    have hm : s.opens.getD (pick r s.opens.length) 0 ∈ s.opens := by
      rw [List.getD_eq_getElem?_getD, List.getElem?_eq_getElem hp]; exact List.getElem_mem _
    simp only
    split
    · exact good_closed g _
    · split
      · exact good_made g hm (by omega)
      · split
        · exact g
        · split
          · exact g
          · exact good_stored g _ _ _ _

theorem within_step {s : ASt} {large : Bool} {d r n a f v : Int} {m : Nat} (g : s.Within m) : (step s large d r n a f v).1.Within (m + 1) := by
  unfold step
  split
  · exact within_opened g
  · simp only
    split
    · exact (within_closed g _).mono (by omega)
    · split
      · have := pick_lt n (m := 40) (by omega)
        exact within_made g _ (by omega) (by omega)
      · split
        · exact g.mono (by omega)
        · split
          · exact g.mono (by omega)
          · exact (within_stored g _ _ _ _).mono (by omega)
end

end Go.Proofs.Ytfoacgdahonapaa
