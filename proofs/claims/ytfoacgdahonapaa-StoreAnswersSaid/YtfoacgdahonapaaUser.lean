/- What is asked of a store's methods; what a user of the law is in memory, and what it does, in plain words. -/
import Derived.Test.YtfoacgdahonapaaMem
namespace Go.Proofs.Ytfoacgdahonapaa
open Go.RowKit Abs

/-- What a call on a store leaves: the store, perhaps in more blocks, and all else as it was. -/
def Now (SA : World → Addr → ASt → (Nat → Prop) → Prop) (w : World) (F : Nat → Prop) (sp : Addr) (s : ASt) (w' : World) : Prop :=
  ∃ F' : Nat → Prop, SA w' sp s F' ∧ (∀ k, F' k → F k ∨ w.heap.size ≤ k) ∧ Kept F w w'

/-- A number of 64 bits. -/
def I64 (n : Int) : Prop := -9223372036854775808 ≤ n ∧ n ≤ 9223372036854775807

/-- What the law asks of a store: 'SA w sp s F': at sp lies the store s, in the blocks F. -/
structure StoreLaws (SA : World → Addr → ASt → (Nat → Prop) → Prop) : Prop where
  lt : ∀ {w sp s F}, SA w sp s F → ∀ k, F k → k < w.heap.size
  frame : ∀ {w w' sp s F}, SA w sp s F → (∀ k, F k → w'.heap[k]? = w.heap[k]?) → SA w' sp s F
  new : ∀ w, Calls Try.prog 9 #[] w fun e w' => ∃ sp, e = .returned (.pointer (some sp)) ∧ Now SA w Nil sp ASt.empty w'
  opened : ∀ {w sp s F}, SA w sp s F → s.Good → s.Within 200 →
    Calls Try.prog 11 #[.pointer (some sp)] w fun e w' => e = .returned (.int .i64 s.many) ∧ Now SA w F sp s.opened w'
  closed : ∀ {w sp s F}, SA w sp s F → s.Good → s.Within 200 → ∀ r : Nat, r ∈ s.opens →
    Calls Try.prog 13 #[.pointer (some sp), .int .i64 r] w fun e w' => e = .returned (.int .i64 0) ∧ Now SA w F sp (s.closed r) w'
  shut : ∀ {w sp s F}, SA w sp s F → s.Good → s.Within 200 → ∀ r : Int, I64 r → ¬ s.isOpen r →
    Calls Try.prog 13 #[.pointer (some sp), .int .i64 r] w fun e w' => e = .returned (.int .i64 70) ∧ Kept Nil w w'
  made : ∀ {w sp s F}, SA w sp s F → s.Good → s.Within 200 → ∀ r n : Nat, r ∈ s.opens → 1 ≤ n → n ≤ 4097 →
    Calls Try.prog 15 #[.pointer (some sp), .int .i64 r, .int .i64 n] w fun e w' => e = .returned (.tuple #[.int .i64 (s.place r n).1, .int .i64 0]) ∧ Now SA w F sp (s.made r n) w'
  unmade : ∀ {w sp s F}, SA w sp s F → s.Good → s.Within 200 → ∀ r n : Int, I64 r → I64 n → (¬ s.isOpen r ∨ n < 1 ∨ 4097 < n) →
    Calls Try.prog 15 #[.pointer (some sp), .int .i64 r, .int .i64 n] w fun e w' => e = .returned (.tuple #[.int .i64 0, .int .i64 (if s.isOpen r then 73 else 70)]) ∧ Kept Nil w w'
  got : ∀ {w sp s F}, SA w sp s F → s.Good → s.Within 200 → ∀ r a f : Int, I64 r → I64 a → I64 f →
    Calls Try.prog 17 #[.pointer (some sp), .int .i64 r, .int .i64 a, .int .i64 f] w fun e w' => e = .returned (.tuple #[.int .i64 (s.got r a f), .int .i64 (s.asked r a f)]) ∧ Kept Nil w w'
  stored : ∀ {w sp s F}, SA w sp s F → s.Good → s.Within 200 → ∀ r a f v : Int, I64 r → I64 a → I64 f → I64 v →
    Calls Try.prog 19 #[.pointer (some sp), .int .i64 r, .int .i64 a, .int .i64 f, .int .i64 v] w fun e w' => e = .returned (.int .i64 (s.asked r a f)) ∧ Now SA w F sp (s.stored r a f v) w'
  words : ∀ {w sp s F}, SA w sp s F → s.Good → s.Within 200 →
    Calls Try.prog 21 #[.pointer (some sp)] w fun e w' => e = .returned (.int .i64 s.words) ∧ Kept Nil w w'
  pages : ∀ {w sp s F}, SA w sp s F → s.Good → s.Within 200 →
    Calls Try.prog 23 #[.pointer (some sp)] w fun e w' => e = .returned (.int .i64 s.pages) ∧ Kept Nil w w'
  free : ∀ {w sp s F}, SA w sp s F → s.Good → s.Within 200 →
    Calls Try.prog 25 #[.pointer (some sp)] w fun e w' => e = .returned (.int .i64 s.free) ∧ Kept Nil w w'

/-- A number's remainder that is not below 0. -/
def around (n m : Int) : Int := if n.tmod m < 0 then n.tmod m + m else n.tmod m

theorem around_in (n : Int) {m : Int} (h : 1 ≤ m) : 0 ≤ around n m ∧ around n m < m := by
  have hl := Int.tmod_lt_of_pos n (b := m) (by omega)
  have hl2 : -m < n.tmod m := by
    have := Int.tmod_lt_of_pos (-n) (b := m) (by omega)
    rw [Int.neg_tmod] at this; omega
  unfold around
  split <;> omega

/-- Which place of a list of that length is meant. -/
def pick (n : Int) (m : Nat) : Nat := (around n m).toNat

theorem pick_lt (n : Int) {m : Nat} (h : 0 < m) : pick n m < m := by
  have := around_in n (m := m) (by omega)
  unfold pick; omega

theorem pick_eq (n : Int) {m : Nat} (h : 0 < m) : around n m = (pick n m : Int) := by
  have := around_in n (m := m) (by omega)
  unfold pick; omega

/-- What the user does to the store, and whether it has made a large cell. -/
def step (s : ASt) (large : Bool) (d r n a f v : Int) : ASt × Bool :=
  if d % 8 = 0 ∨ s.opens = [] then (s.opened, large)
  else
    let reg := s.opens.getD (pick r s.opens.length) 0
    if d % 8 = 1 then (s.closed reg, large)
    else if d % 8 < 4 then (s.made reg (1 + pick n 40), large || decide (16 < 1 + pick n 40))
    else if s.cells = [] then (s, large)
    else
      let c := s.cells.getD (pick a s.cells.length) ⟨0, 0, []⟩
      if d % 8 < 5 then (s, large) else (s.stored c.reg c.addr (pick f c.ws.length) v, large)

/-- A cell's fields as values. -/
def ints (l : List Int) : List Value := l.map (Value.int .i64)

/-- A remembered cell's three values; b is the block of its fields. -/
def cellVals (x : ACell × Nat) : List Value := [.int .i64 x.1.reg, .int .i64 x.1.addr, .slice (some ⟨x.2, 0, none⟩) x.1.ws.length x.1.ws.length]

/-- Where a user lies: its block, its store, its two slices, the cells with the blocks of their fields, the store's blocks. -/
structure UData where
  ub : Nat
  sp : Addr
  ov : Value
  cv : Value
  cs : List (ACell × Nat)
  F : Nat → Prop

/-- The user's blocks. -/
def UData.own (u : UData) : Nat → Prop := fun k => k = u.ub ∨ u.ov.ownBlock = some k ∨ u.cv.ownBlock = some k ∨ (∃ x ∈ u.cs, x.2 = k) ∨ u.F k

structure UserAt (SA : World → Addr → ASt → (Nat → Prop) → Prop) (w : World) (u : UData) (s : ASt) (large : Bool) (B : Nat) : Prop where
  blk : Blk w u.ub [.pointer (some u.sp), .int .i64 s.many, u.ov, u.cv, .bool large] 45
  opens : w.ownsRow 0 3 1 u.ov s.opens.length (s.opens.map fun n : Nat => .int .i64 n)
  cells : w.ownsRow 0 50 3 u.cv s.cells.length (u.cs.flatMap cellVals)
  same : u.cs.map (·.1) = s.cells
  fields : ∀ x ∈ u.cs, Blk w x.2 (ints x.1.ws) 2
  store : SA w u.sp s u.F
  base : ∀ k, u.own k → B ≤ k
  ubOv : u.ov.ownBlock ≠ some u.ub
  ubCv : u.cv.ownBlock ≠ some u.ub
  ubCs : ∀ x ∈ u.cs, x.2 ≠ u.ub
  ubF : ¬ u.F u.ub
  ovCv : ∀ k, u.ov.ownBlock = some k → u.cv.ownBlock ≠ some k
  ovCs : ∀ x ∈ u.cs, u.ov.ownBlock ≠ some x.2
  ovF : ∀ k, u.ov.ownBlock = some k → ¬ u.F k
  cvCs : ∀ x ∈ u.cs, u.cv.ownBlock ≠ some x.2
  cvF : ∀ k, u.cv.ownBlock = some k → ¬ u.F k
  csCs : (u.cs.map (·.2)).Nodup
  csF : ∀ x ∈ u.cs, ¬ u.F x.2

/-- What a call on the user leaves. -/
def UserNow (SA : World → Addr → ASt → (Nat → Prop) → Prop) (w : World) (u : UData) (s : ASt) (large : Bool) (B : Nat) (w' : World) : Prop :=
  ∃ u' : UData, UserAt SA w' u' s large B ∧ u'.ub = u.ub ∧ Kept u.own w w'

theorem UserAt.keep {SA : World → Addr → ASt → (Nat → Prop) → Prop} (L : StoreLaws SA) {w w' : World} {u : UData} {s : ASt} {large : Bool} {B : Nat} {S : Nat → Prop}
    (h : UserAt SA w u s large B) (k : Kept S w w') (hs : ∀ i, S i → ¬ u.own i) : UserAt SA w' u s large B := by
  have no : ∀ i, u.own i → ¬ S i := fun i hi si => hs i si hi
  refine ⟨Blk.keep k h.blk (no _ (.inl rfl)), k.row h.opens (fun i hi => no i (.inr (.inl hi))), k.row h.cells (fun i hi => no i (.inr (.inr (.inl hi)))), h.same,
    fun x hx => Blk.keep k (h.fields x hx) (no _ (.inr (.inr (.inr (.inl ⟨x, hx, rfl⟩))))), L.frame h.store (fun i hi => k.block i (L.lt h.store i hi) (no i (.inr (.inr (.inr (.inr hi)))))),
    h.base, h.ubOv, h.ubCv, h.ubCs, h.ubF, h.ovCv, h.ovCs, h.ovF, h.cvCs, h.cvF, h.csCs, h.csF⟩

theorem UserAt.lt {SA : World → Addr → ASt → (Nat → Prop) → Prop} (L : StoreLaws SA) {w : World} {u : UData} {s : ASt} {large : Bool} {B : Nat} (h : UserAt SA w u s large B) : ∀ k, u.own k → k < w.heap.size := by
  intro k hk
  rcases hk with rfl | hk | hk | ⟨x, hx, rfl⟩ | hk
  · exact h.blk.lt
  · exact (h.opens.lt k hk).2
  · exact (h.cells.lt k hk).2
  · exact (h.fields x hx).lt
  · exact L.lt h.store k hk

/-- The values of the remembered cells, by their places. -/
theorem flat_get (l : List (ACell × Nat)) (i j : Nat) (hj : j < 3) : (l.flatMap cellVals)[i * 3 + j]? = (l[i]?).bind fun x => (cellVals x)[j]? := by
  induction l generalizing i with
  | nil => simp
  | cons x l ih =>
    rw [List.flatMap_cons]
    have hx : (cellVals x).length = 3 := rfl
    cases i with
    | zero => rw [List.getElem?_append_left (by omega)]; simp
    | succ i =>
      rw [List.getElem?_append_right (by omega), hx, show (i + 1) * 3 + j - 3 = i * 3 + j by omega, ih]
      simp

theorem flat_length (l : List (ACell × Nat)) : (l.flatMap cellVals).length = l.length * 3 := by
  induction l with
  | nil => rfl
  | cons x l ih =>
    rw [List.flatMap_cons, List.length_append, ih, List.length_cons]
    show 3 + _ = _
    omega

/-- around, where m is at least 1. -/
theorem around_at (n m : Int) (k : Nat) (w : World) (hn : I64 n) (h : 1 ≤ m) (hm : m ≤ 9223372036854775807) (hk : Hid (around n m = k)) :
    Calls Try.prog 39 #[.int .i64 n, .int .i64 m] w fun e w' => e = .returned (.int .i64 k) ∧ w' = w := by
  obtain ⟨h1, h2⟩ := hn
  have hl := Int.tmod_lt_of_pos n (b := m) (by omega)
  have hl2 : -m < n.tmod m := by
    have := Int.tmod_lt_of_pos (-n) (b := m) (by omega)
    rw [Int.neg_tmod] at this; omega
  go_enter Try.func39, Try.ntmps39
  go_wp2
  all_goals go_ret
  · refine ⟨?_, rfl⟩
    rw [← hk.out]; unfold around; rw [if_pos (by assumption)]; rfl
  · refine ⟨?_, rfl⟩
    rw [← hk.out]; unfold around; rw [if_neg (by omega)]; rfl

end Go.Proofs.Ytfoacgdahonapaa
