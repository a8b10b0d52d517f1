/- How many pages a store takes: plain mathematics. No Go text is read here. -/
import Derived.Test.YtfoacgdahonapaaAbs
namespace Go.Proofs.Ytfoacgdahonapaa.Abs
set_option linter.unusedVariables false

theorem sum_zero {α : Type} (l : List α) (g : α → Nat) (h : ∀ x ∈ l, g x = 0) : (l.map g).sum = 0 := by
  induction l with
  | nil => rfl
  | cons x l ih => rw [List.map_cons, List.sum_cons, h x List.mem_cons_self, ih (fun y hy => h y (List.mem_cons_of_mem _ hy))]

def sumBy (l : List ACell) (r : Nat) (g : ACell → Nat) : Nat := (l.map fun c => if c.reg = r then g c else 0).sum
def smallW (c : ACell) : Nat := if c.ws.length ≤ 16 then c.ws.length else 0
def largeP (c : ACell) : Nat := if c.ws.length ≤ 16 then 0 else (c.ws.length + 15) / 16
def largeW (c : ACell) : Nat := if c.ws.length ≤ 16 then 0 else c.ws.length
def anyOf (l : List ACell) (r : Nat) : Bool := l.any fun c => decide (c.reg = r) && decide (c.ws.length ≤ 16)
def roomOf (l : List ACell) (r : Nat) : Nat := if anyOf l r then 2 * sumBy l r smallW / 16 + 1 + sumBy l r largeP else sumBy l r largeP
def countR (l : List (Option Nat)) (r : Nat) : Nat := l.countP (· == some r)

theorem sumBy_append (l k : List ACell) (r : Nat) (g : ACell → Nat) : sumBy (l ++ k) r g = sumBy l r g + sumBy k r g := by
  unfold sumBy; rw [List.map_append, List.sum_append]

theorem sumBy_one (c : ACell) (r : Nat) (g : ACell → Nat) : sumBy [c] r g = if c.reg = r then g c else 0 := by
  unfold sumBy; simp

theorem sumBy_le (l : List ACell) (r : Nat) {g h : ACell → Nat} (hg : ∀ c, g c ≤ h c) : sumBy l r g ≤ sumBy l r h := by
  induction l with
  | nil => simp [sumBy]
  | cons c l ih =>
    rw [show c :: l = [c] ++ l from rfl, sumBy_append, sumBy_append, sumBy_one, sumBy_one]
    have := hg c
    split <;> omega

theorem sumBy_add (l : List ACell) (r : Nat) (g h : ACell → Nat) : sumBy l r (fun c => g c + h c) = sumBy l r g + sumBy l r h := by
  induction l with
  | nil => simp [sumBy]
  | cons c l ih =>
    rw [show c :: l = [c] ++ l from rfl, sumBy_append, sumBy_append, sumBy_append, sumBy_one, sumBy_one, sumBy_one, ih]
    split <;> omega

theorem sumBy_mul (l : List ACell) (r : Nat) (g : ACell → Nat) (k : Nat) : sumBy l r (fun c => k * g c) = k * sumBy l r g := by
  induction l with
  | nil => simp [sumBy]
  | cons c l ih =>
    rw [show c :: l = [c] ++ l from rfl, sumBy_append, sumBy_append, sumBy_one, sumBy_one, ih, Nat.mul_add]
    split <;> simp

theorem sumBy_filter (l : List ACell) (q r : Nat) (h : r ≠ q) (g : ACell → Nat) : sumBy (l.filter (·.reg ≠ q)) r g = sumBy l r g := by
  induction l with
  | nil => rfl
  | cons c l ih =>
    rw [List.filter_cons]
    by_cases hc : c.reg = q
    · rw [if_neg (by simpa using hc), ih, show c :: l = [c] ++ l from rfl, sumBy_append, sumBy_one, if_neg (by omega)]
      omega
    · rw [if_pos (by simpa using hc), show c :: (l.filter (·.reg ≠ q)) = [c] ++ (l.filter (·.reg ≠ q)) from rfl, show c :: l = [c] ++ l from rfl, sumBy_append, sumBy_append, ih]

theorem anyOf_filter (l : List ACell) (q r : Nat) (h : r ≠ q) : anyOf (l.filter (·.reg ≠ q)) r = anyOf l r := by
  unfold anyOf
  induction l with
  | nil => rfl
  | cons c l ih =>
    rw [List.filter_cons]
    by_cases hc : c.reg = q
    · rw [if_neg (by simpa using hc), ih, List.any_cons]
      simp [hc, Ne.symm h]
    · rw [if_pos (by simpa using hc), List.any_cons, List.any_cons, ih]

theorem sumBy_like (l : List ACell) (r : Nat) {k : ACell → ACell} (hk : ∀ c, (k c).like c) {g : ACell → Nat} (hg : ∀ c d : ACell, c.ws.length = d.ws.length → g c = g d) : sumBy (l.map k) r g = sumBy l r g := by
  unfold sumBy
  rw [List.map_map]
  congr 1
  refine List.map_congr_left fun c _ => ?_
  simp only [Function.comp]
  rw [(hk c).1, hg _ _ (hk c).2.2]

theorem anyOf_like (l : List ACell) (r : Nat) {k : ACell → ACell} (hk : ∀ c, (k c).like c) : anyOf (l.map k) r = anyOf l r := by
  unfold anyOf
  rw [List.any_map]
  congr 1
  funext c
  simp only [Function.comp]
  rw [(hk c).1, (hk c).2.2]

/-- A sum over all cells is the sum over the regions. -/
theorem sum_regions {α : Type} (l : List α) (key : α → Nat) (g : α → Nat) (rs : List Nat) (hn : rs.Nodup) (h : ∀ x ∈ l, key x ∈ rs) :
    (l.map g).sum = (rs.map fun r => (l.map fun x => if key x = r then g x else 0).sum).sum := by
  induction l with
  | nil => exact (sum_zero rs _ (fun _ _ => rfl)).symm
  | cons x l ih =>
    rw [List.map_cons, List.sum_cons, ih (fun y hy => h y (List.mem_cons_of_mem _ hy))]
    have one : ∀ rs : List Nat, rs.Nodup → key x ∈ rs → (rs.map fun r => if key x = r then g x else 0).sum = g x := by
      intro rs
      induction rs with
      | nil => intro _ hm; cases hm
      | cons r rs ihr =>
        intro hnd hm
        rw [List.map_cons, List.sum_cons]
        obtain ⟨hr, hnd'⟩ := List.nodup_cons.1 hnd
        by_cases hx : key x = r
        · rw [if_pos hx]
          have zero : (rs.map fun r => if key x = r then g x else 0).sum = 0 := by
            refine sum_zero _ _ (fun y hy => if_neg (fun e => hr (by rw [← hx, e]; exact hy)))
          omega
        · rw [if_neg hx, ihr hnd' ((List.mem_cons.1 hm).resolve_left hx)]; omega
    have add : ∀ rs : List Nat, (rs.map fun r => ((x :: l).map fun y => if key y = r then g y else 0).sum).sum = (rs.map fun r => if key x = r then g x else 0).sum + (rs.map fun r => (l.map fun y => if key y = r then g y else 0).sum).sum := by
      intro rs
      induction rs with
      | nil => rfl
      | cons r rs ihr =>
        simp only [List.map_cons, List.sum_cons] at ihr ⊢
        omega
    rw [add, one rs hn (h x List.mem_cons_self)]

theorem countR_sum (l : List (Option Nat)) (r : Nat) : countR l r = (l.map fun o => if o = some r then 1 else 0).sum := by
  unfold countR
  induction l with
  | nil => rfl
  | cons o l ih =>
    rw [List.countP_cons, List.map_cons, List.sum_cons, ih]
    by_cases h : o = some r
    · simp [h]; omega
    · simp [h]

theorem pages_sum {s : ASt} (h : s.Good) : s.pages = (s.opens.map fun r => countR s.owner r).sum := by
  have key : ∀ l : List (Option Nat), (∀ o ∈ l, ∀ r, o = some r → r ∈ s.opens) → l.countP (·.isSome) = (s.opens.map fun r => countR l r).sum := by
    intro l hl
    have h1 := sum_regions (l.filter (·.isSome)) (fun o => o.getD 0) (fun _ => 1) s.opens h.nodup (by
      intro o ho
      obtain ⟨ho1, ho2⟩ := List.mem_filter.1 ho
      cases o with
      | none => cases ho2
      | some r => exact hl _ ho1 r rfl)
    rw [List.countP_eq_length_filter]
    have e1 : ((l.filter (·.isSome)).map fun _ => 1).sum = (l.filter (·.isSome)).length := by
      generalize l.filter (·.isSome) = k
      induction k with
      | nil => rfl
      | cons a k ih => rw [List.map_cons, List.sum_cons, ih, List.length_cons]; omega
    rw [← e1, h1]
    congr 1
    refine List.map_congr_left fun r _ => ?_
    rw [countR_sum]
    clear h1 e1 hl
    induction l with
    | nil => rfl
    | cons o l ih =>
      rw [List.filter_cons]
      cases o with
      | none => simpa using ih
      | some q =>
        simp only [Option.isSome_some, if_true, List.map_cons, List.sum_cons, Option.getD_some, Option.some.injEq]
        rw [ih]
  refine key s.owner (fun o ho r hr => ?_)
  subst hr
  obtain ⟨p, hp, he⟩ := List.mem_iff_getElem.1 ho
  exact h.owned p r (by rw [List.getElem?_eq_getElem hp, he])

theorem words_sum {s : ASt} (h : s.Good) : s.words = (s.opens.map fun r => sumBy s.cells r (fun c => c.ws.length)).sum :=
  sum_regions s.cells (·.reg) (·.ws.length) s.opens h.nodup h.reg

theorem pages_free (s : ASt) : s.pages + s.free = s.owner.length := by
  unfold ASt.pages ASt.free
  induction s.owner with
  | nil => rfl
  | cons o l ih =>
    rw [List.countP_cons, List.countP_cons, List.length_cons]
    cases o <;> simp <;> omega

theorem countR_setRun {l : List (Option Nat)} {k r : Nat} (hk : 0 < k) (q : Nat) :
    countR (setRun l (findRun l k) k r) q = countR l q + if q = r then k else 0 := by
  have hle := findRun_le l k hk
  have hfree := findRun_free l k hk
  generalize findRun l k = p at hle hfree
  have hl : l = l.take p ++ ((l.drop p).take k ++ l.drop (p + k)) := by
    rw [← List.drop_drop, List.take_append_drop, List.take_append_drop]
  have mid : countR ((l.drop p).take k) q = 0 := by
    unfold countR
    rw [List.countP_eq_zero]
    intro o ho hq
    obtain ⟨j, hj, he⟩ := List.mem_iff_getElem.1 ho
    have h1 : ((l.drop p).take k)[j]? = some (some q) := by rw [List.getElem?_eq_getElem hj, he]; simpa using hq
    rw [List.getElem?_take] at h1
    split at h1
    · rw [List.getElem?_drop] at h1
      exact hfree (p + j) (by omega) (by omega) q h1
    · cases h1
  have rep : countR (List.replicate k (some r)) q = if q = r then k else 0 := by
    unfold countR
    rw [List.countP_replicate]
    by_cases h : q = r
    · subst h; simp
    · rw [if_neg h, if_neg (by simpa using fun e => h e.symm)]
  have e1 : countR l q = countR (l.take p) q + countR (l.drop (p + k)) q := by
    conv => lhs; rw [hl]
    unfold countR at mid ⊢
    rw [List.countP_append, List.countP_append, mid]; omega
  rw [e1]
  unfold setRun
  unfold countR at rep ⊢
  rw [List.countP_append, List.countP_append, rep]
  omega

/-- What is true of every store's pages. -/
def RoomOk (s : ASt) (large : Bool) (most : Nat) (m : Nat → Nat) : Prop :=
  (∀ r ∈ s.opens, countR s.owner r = m r + sumBy s.cells r largeP) ∧
  (∀ r ∈ s.opens, s.cur r = none → m r = 0 ∧ sumBy s.cells r smallW = 0 ∧ anyOf s.cells r = false) ∧
  (∀ r ∈ s.opens, ∀ p f : Nat, s.cur r = some (p, f) → anyOf s.cells r = true ∧ 1 ≤ m r ∧ 16 * (m r - 1) + f ≤ 2 * sumBy s.cells r smallW ∧ sumBy s.cells r smallW ≤ 16 * (m r - 1) + f) ∧
  (large = false → s.owner.length = most)

theorem room_pages {s : ASt} {large : Bool} {most : Nat} {m : Nat → Nat} (g : s.Good) (h : RoomOk s large most m) : s.pages ≤ (s.opens.map (roomOf s.cells)).sum := by
  rw [pages_sum g]
  have : ∀ rs : List Nat, (∀ r ∈ rs, r ∈ s.opens) → (rs.map fun r => countR s.owner r).sum ≤ (rs.map (roomOf s.cells)).sum := by
    intro rs
    induction rs with
    | nil => intro _; simp
    | cons r rs ih =>
      intro hr
      have hm := hr r List.mem_cons_self
      have := ih (fun q hq => hr q (List.mem_cons_of_mem _ hq))
      simp only [List.map_cons, List.sum_cons]
      have h1 := h.1 r hm
      have : countR s.owner r ≤ roomOf s.cells r := by
        unfold roomOf
        cases hc : s.cur r with
        | none =>
          obtain ⟨h2, h3, h4⟩ := h.2.1 r hm hc
          rw [h4]; simp; omega
        | some pf =>
          obtain ⟨p, f⟩ := pf
          obtain ⟨h2, h3, h4, h5⟩ := h.2.2.1 r hm p f hc
          rw [h2]; simp only [if_true]; omega
      omega
  exact this s.opens (fun _ h => h)

theorem room_words {s : ASt} {large : Bool} {most : Nat} {m : Nat → Nat} (g : s.Good) (h : RoomOk s large most m) : s.words ≤ s.pages * 16 := by
  rw [pages_sum g, words_sum g]
  have : ∀ rs : List Nat, (∀ r ∈ rs, r ∈ s.opens) → (rs.map fun r => sumBy s.cells r (fun c => c.ws.length)).sum ≤ (rs.map fun r => countR s.owner r).sum * 16 := by
    intro rs
    induction rs with
    | nil => intro _; simp
    | cons r rs ih =>
      intro hr
      have hm := hr r List.mem_cons_self
      have ih := ih (fun q hq => hr q (List.mem_cons_of_mem _ hq))
      simp only [List.map_cons, List.sum_cons]
      have h1 := h.1 r hm
      have e1 : sumBy s.cells r (fun c => c.ws.length) ≤ sumBy s.cells r smallW + 16 * sumBy s.cells r largeP := by
        rw [← sumBy_mul, ← sumBy_add]
        refine sumBy_le _ _ (fun c => ?_)
        unfold smallW largeP
        split <;> omega
      have e2 : sumBy s.cells r smallW ≤ 16 * m r := by
        cases hc : s.cur r with
        | none =>
          obtain ⟨_, h3, _⟩ := h.2.1 r hm hc
          omega
        | some pf =>
          obtain ⟨p, f⟩ := pf
          obtain ⟨_, h3, _, h5⟩ := h.2.2.1 r hm p f hc
          have := (g.cur r hm p f hc).2.1
          omega
      omega
  exact this s.opens (fun _ h => h)

theorem room_empty : RoomOk ASt.empty false 0 (fun _ => 0) :=
  ⟨fun r hr => by simp [ASt.empty] at hr, fun r hr => by simp [ASt.empty] at hr, fun r hr => by simp [ASt.empty] at hr, fun _ => rfl⟩

theorem pages_le (s : ASt) : s.pages ≤ s.owner.length := by have := pages_free s; omega

theorem room_opened {s : ASt} {large : Bool} {most : Nat} {m : Nat → Nat} (g : s.Good) (h : RoomOk s large most m) : ∃ m', RoomOk s.opened large (max most s.opened.pages) m' := by
  have hn : s.many ∉ s.opens := fun hm => Nat.lt_irrefl _ (g.lt _ hm)
  have noc : ∀ c ∈ s.cells, c.reg ≠ s.many := fun c hc e => hn (e ▸ g.reg c hc)
  have z : ∀ g' : ACell → Nat, sumBy s.cells s.many g' = 0 := by
    intro g'
    unfold sumBy
    exact sum_zero _ _ (fun c hc => if_neg (noc c hc))
  have za : anyOf s.cells s.many = false := by
    unfold anyOf
    rw [List.any_eq_false]
    intro c hc
    simp [noc c hc]
  have zc : countR s.owner s.many = 0 := by
    unfold countR
    rw [List.countP_eq_zero]
    intro o ho hq
    obtain ⟨p, hp, he⟩ := List.mem_iff_getElem.1 ho
    have : o = some s.many := by simpa using hq
    exact hn (g.owned p s.many (by rw [List.getElem?_eq_getElem hp, he, this]))
  refine ⟨fun r => if r = s.many then 0 else m r, ?_, ?_, ?_, ?_⟩
  · intro r hr
    simp only [ASt.opened, List.mem_append, List.mem_singleton] at hr ⊢
    by_cases he : r = s.many
    · subst he; rw [if_pos rfl, z, zc]
    · rw [if_neg he]; exact h.1 r (hr.resolve_right he)
  · intro r hr hc
    simp only [ASt.opened, List.mem_append, List.mem_singleton] at hr hc ⊢
    by_cases he : r = s.many
    · subst he; rw [if_pos rfl]; exact ⟨rfl, z _, za⟩
    · rw [if_neg he] at hc ⊢; exact h.2.1 r (hr.resolve_right he) hc
  · intro r hr p f hc
    simp only [ASt.opened, List.mem_append, List.mem_singleton] at hr hc ⊢
    by_cases he : r = s.many
    · simp [he] at hc
    · rw [if_neg he] at hc ⊢; exact h.2.2.1 r (hr.resolve_right he) p f hc
  · intro hl
    have h1 := h.2.2.2 hl
    have h2 := pages_le s
    show s.owner.length = max most s.pages
    omega

theorem room_closed {s : ASt} {large : Bool} {most : Nat} {m : Nat → Nat} (g : s.Good) (h : RoomOk s large most m) (q : Nat) : ∃ m', RoomOk (s.closed q) large (max most (s.closed q).pages) m' := by
  refine ⟨m, ?_, ?_, ?_, ?_⟩
  · intro r hr
    obtain ⟨h1, h2⟩ := List.mem_filter.1 hr
    have hne : r ≠ q := by simpa using h2
    show countR (s.owner.map _) r = m r + sumBy (s.cells.filter _) r largeP
    rw [sumBy_filter _ _ _ hne, ← h.1 r h1]
    unfold countR
    rw [List.countP_map]
    congr 1
    funext o
    simp only [Function.comp]
    by_cases ho : o = some q
    · subst ho; simp [Ne.symm hne]
    · simp [ho]
  · intro r hr hc
    obtain ⟨h1, h2⟩ := List.mem_filter.1 hr
    have hne : r ≠ q := by simpa using h2
    show m r = 0 ∧ sumBy (s.cells.filter _) r smallW = 0 ∧ anyOf (s.cells.filter _) r = false
    rw [sumBy_filter _ _ _ hne, anyOf_filter _ _ _ hne]
    exact h.2.1 r h1 hc
  · intro r hr p f hc
    obtain ⟨h1, h2⟩ := List.mem_filter.1 hr
    have hne : r ≠ q := by simpa using h2
    show anyOf (s.cells.filter _) r = true ∧ 1 ≤ m r ∧ 16 * (m r - 1) + f ≤ 2 * sumBy (s.cells.filter _) r smallW ∧ sumBy (s.cells.filter _) r smallW ≤ 16 * (m r - 1) + f
    rw [sumBy_filter _ _ _ hne, anyOf_filter _ _ _ hne]
    exact h.2.2.1 r h1 p f hc
  · intro hl
    have h1 := h.2.2.2 hl
    have h2 := pages_le (s.closed q)
    have h3 : (s.closed q).owner.length = s.owner.length := by simp [ASt.closed]
    omega

theorem room_stored {s : ASt} {large : Bool} {most : Nat} {m : Nat → Nat} (h : RoomOk s large most m) (r a f v : Int) : ∃ m', RoomOk (s.stored r a f v) large (max most (s.stored r a f v).pages) m' := by
  have hmax : ∀ t : ASt, t.owner = s.owner → (large = false → t.owner.length = max most t.pages) := by
    intro t ht hl
    have h1 := h.2.2.2 hl
    have h2 := pages_le t
    rw [ht] at h2 ⊢
    omega
  by_cases h0 : s.asked r a f = 0
  · rw [stored_cells v h0]
    have hlk := wr_like r a f.toNat v
    refine ⟨m, ?_, ?_, ?_, hmax _ rfl⟩
    · intro q hq
      show countR s.owner q = m q + sumBy (s.cells.map _) q largeP
      rw [sumBy_like _ _ hlk (fun c d e => by unfold largeP; rw [e])]
      exact h.1 q hq
    · intro q hq hc
      show m q = 0 ∧ sumBy (s.cells.map _) q smallW = 0 ∧ anyOf (s.cells.map _) q = false
      rw [sumBy_like _ _ hlk (fun c d e => by unfold smallW; rw [e]), anyOf_like _ _ hlk]
      exact h.2.1 q hq hc
    · intro q hq p f' hc
      show anyOf (s.cells.map _) q = true ∧ 1 ≤ m q ∧ 16 * (m q - 1) + f' ≤ 2 * sumBy (s.cells.map _) q smallW ∧ sumBy (s.cells.map _) q smallW ≤ 16 * (m q - 1) + f'
      rw [sumBy_like _ _ hlk (fun c d e => by unfold smallW; rw [e]), anyOf_like _ _ hlk]
      exact h.2.2.1 q hq p f' hc
  · unfold ASt.stored
    rw [if_neg h0]
    exact ⟨m, h.1, h.2.1, h.2.2.1, hmax s rfl⟩

theorem room_made {s : ASt} {large : Bool} {most : Nat} {m : Nat → Nat} (g : s.Good) (h : RoomOk s large most m) {r n : Nat} (hr : r ∈ s.opens) (hn : 1 ≤ n) :
    ∃ m', RoomOk (s.made r n) (large || decide (16 < n)) (max most (s.made r n).pages) m' := by
  have hlen : (List.replicate n (0 : Int)).length = n := List.length_replicate
  have small : ∀ q, n ≤ 16 → sumBy (s.cells ++ [⟨r, (s.place r n).1, List.replicate n 0⟩]) q smallW = sumBy s.cells q smallW + if r = q then n else 0 := by
    intro q h16
    rw [sumBy_append, sumBy_one]
    simp only [smallW, hlen, if_pos h16]
  have smallL : ∀ q, ¬ n ≤ 16 → sumBy (s.cells ++ [⟨r, (s.place r n).1, List.replicate n 0⟩]) q smallW = sumBy s.cells q smallW := by
    intro q h16
    rw [sumBy_append, sumBy_one]
    simp only [smallW, hlen, if_neg h16]
    split <;> rfl
  have larg : ∀ q, n ≤ 16 → sumBy (s.cells ++ [⟨r, (s.place r n).1, List.replicate n 0⟩]) q largeP = sumBy s.cells q largeP := by
    intro q h16
    rw [sumBy_append, sumBy_one]
    simp only [largeP, hlen, if_pos h16]
    split <;> rfl
  have largL : ∀ q, ¬ n ≤ 16 → sumBy (s.cells ++ [⟨r, (s.place r n).1, List.replicate n 0⟩]) q largeP = sumBy s.cells q largeP + if r = q then (n + 15) / 16 else 0 := by
    intro q h16
    rw [sumBy_append, sumBy_one]
    simp only [largeP, hlen, if_neg h16]
  have anyS : ∀ q, n ≤ 16 → anyOf (s.cells ++ [⟨r, (s.place r n).1, List.replicate n 0⟩]) q = (anyOf s.cells q || decide (r = q)) := by
    intro q h16
    unfold anyOf
    rw [List.any_append]
    simp [h16]
  have anyL : ∀ q, ¬ n ≤ 16 → anyOf (s.cells ++ [⟨r, (s.place r n).1, List.replicate n 0⟩]) q = anyOf s.cells q := by
    intro q h16
    unfold anyOf
    rw [List.any_append]
    simp [h16]
  obtain ⟨H1, H2, H3, H4⟩ := h
  by_cases h16 : n ≤ 16
  · have hdec : decide (16 < n) = false := by simp; omega
    rw [hdec, Bool.or_false]
    -- a page of its own
    have fresh : ∀ cur : Nat → Option (Nat × Nat), (∀ q, q ≠ r → cur q = s.cur q) → cur r = some (findRun s.owner 1, n) →
        (∀ p f, s.cur r = some (p, f) → 16 < f + n) →
        s.place r n = (16 * findRun s.owner 1, { s with owner := setRun s.owner (findRun s.owner 1) 1 r, cur := cur }) →
        ∃ m', RoomOk (s.made r n) large (max most (s.made r n).pages) m' := by
      intro cur hq hcr hfull hp
      have eo : (s.made r n).owner = setRun s.owner (findRun s.owner 1) 1 r := by unfold ASt.made; rw [hp]
      have ec : (s.made r n).cur = cur := by unfold ASt.made; rw [hp]
      have eop : (s.made r n).opens = s.opens := (place_many s r n).2.1
      have ece : (s.made r n).cells = s.cells ++ [⟨r, (s.place r n).1, List.replicate n 0⟩] := rfl
      refine ⟨fun q => if q = r then m q + 1 else m q, ?_, ?_, ?_, ?_⟩
      · intro q hq'
        rw [eop] at hq'
        rw [eo, countR_setRun (by omega), ece, larg q h16, H1 q hq']
        by_cases e : q = r
        · simp only [e, if_true]; omega
        · simp only [if_neg e]; omega
      · intro q hq' hc
        rw [eop] at hq'
        rw [ec] at hc
        by_cases e : q = r
        · subst e; rw [hcr] at hc; cases hc
        · rw [hq q e] at hc
          rw [ece, small q h16, anyS q h16]
          obtain ⟨a1, a2, a3⟩ := H2 q hq' hc
          simp only [if_neg e, if_neg (Ne.symm e), a1, a2, a3]
          exact ⟨trivial, trivial, by simp [Ne.symm e]⟩
      · intro q hq' p f hc
        rw [eop] at hq'
        rw [ec] at hc
        rw [ece, small q h16, anyS q h16]
        by_cases e : q = r
        · subst e
          rw [hcr] at hc
          simp only [Option.some.injEq, Prod.mk.injEq] at hc
          obtain ⟨_, rfl⟩ := hc
          simp only [if_true, decide_true, Bool.or_true, true_and]
          cases ho : s.cur q with
          | none =>
            obtain ⟨a1, a2, a3⟩ := H2 q hq' ho
            omega
          | some pf =>
            obtain ⟨p0, f0⟩ := pf
            obtain ⟨a1, a2, a3, a4⟩ := H3 q hq' p0 f0 ho
            have := hfull p0 f0 ho
            have := (g.cur q hq' p0 f0 ho).2.1
            omega
        · rw [hq q e] at hc
          obtain ⟨a1, a2, a3, a4⟩ := H3 q hq' p f hc
          simp only [if_neg e, if_neg (Ne.symm e), a1, Bool.true_or, true_and, Nat.add_zero]
          exact ⟨a2, a3, a4⟩
      · intro hl
        have h1 := H4 hl
        have h2 := pages_le (s.made r n)
        have h3 := pages_free (s.made r n)
        have hle := findRun_le s.owner 1 (by omega)
        have h4 : (s.made r n).owner.length = max s.owner.length (findRun s.owner 1 + 1) := by rw [eo, setRun_length _ _ _ _ hle]
        rcases findRun_spec s.owner 1 (by omega) with ⟨_, hlt, _⟩ | ⟨heq, hno⟩
        · omega
        · have hfree : (s.made r n).free = 0 := by
            unfold ASt.free
            rw [eo, List.countP_eq_zero]
            intro o ho hn'
            obtain ⟨j, hj, he⟩ := List.mem_iff_getElem.1 ho
            have hg : (setRun s.owner (findRun s.owner 1) 1 r)[j]? = some none := by
              rw [List.getElem?_eq_getElem hj, he]
              cases o with
              | none => rfl
              | some _ => cases hn'
            rw [setRun_get _ _ _ _ _ hle] at hg
            split at hg
            · cases hg
            · have hw := hno j
              have : waits s.owner j 1 = true := (waits_iff s.owner j 1 (by omega)).2 (fun i hi => by rw [show j + i = j by omega]; exact hg)
              rw [hw] at this; cases this
          omega
    have hplace : s.place r n = match s.cur r with
        | some (p, f) => if f + n ≤ 16 then (16 * p + f, { s with cur := fun q => if q = r then some (p, f + n) else s.cur q })
          else (16 * findRun s.owner 1, { s with owner := setRun s.owner (findRun s.owner 1) 1 r, cur := fun q => if q = r then some (findRun s.owner 1, n) else s.cur q })
        | none => (16 * findRun s.owner 1, { s with owner := setRun s.owner (findRun s.owner 1) 1 r, cur := fun q => if q = r then some (findRun s.owner 1, n) else s.cur q }) := by
      unfold ASt.place
      rw [if_neg (by omega)]
      rfl
    cases ho : s.cur r with
    | none =>
      rw [ho] at hplace
      exact fresh _ (fun q hq => if_neg hq) (if_pos rfl) (fun p f hc => by rw [ho] at hc; cases hc) hplace
    | some pf =>
      obtain ⟨p0, f0⟩ := pf
      rw [ho] at hplace
      by_cases hfit : f0 + n ≤ 16
      · simp only [if_pos hfit] at hplace
        have eo : (s.made r n).owner = s.owner := by unfold ASt.made; rw [hplace]
        have ec : (s.made r n).cur = fun q => if q = r then some (p0, f0 + n) else s.cur q := by unfold ASt.made; rw [hplace]
        have eop : (s.made r n).opens = s.opens := (place_many s r n).2.1
        have ece : (s.made r n).cells = s.cells ++ [⟨r, (s.place r n).1, List.replicate n 0⟩] := rfl
        refine ⟨m, ?_, ?_, ?_, ?_⟩
        · intro q hq'
          rw [eop] at hq'
          rw [eo, ece, larg q h16]
          exact H1 q hq'
        · intro q hq' hc
          rw [eop] at hq'
          rw [ec] at hc
          by_cases e : q = r
          · simp [e] at hc
          · simp only [if_neg e] at hc
            rw [ece, small q h16, anyS q h16]
            obtain ⟨a1, a2, a3⟩ := H2 q hq' hc
            simp only [if_neg (Ne.symm e), a1, a2, a3]
            exact ⟨trivial, trivial, by simp [Ne.symm e]⟩
        · intro q hq' p f hc
          rw [eop] at hq'
          rw [ec] at hc
          rw [ece, small q h16, anyS q h16]
          by_cases e : q = r
          · subst e
            simp only [if_true, Option.some.injEq, Prod.mk.injEq] at hc
            obtain ⟨_, rfl⟩ := hc
            obtain ⟨a1, a2, a3, a4⟩ := H3 q hq' p0 f0 ho
            simp only [if_true, decide_true, Bool.or_true, true_and]
            omega
          · simp only [if_neg e] at hc
            obtain ⟨a1, a2, a3, a4⟩ := H3 q hq' p f hc
            simp only [if_neg (Ne.symm e), a1, Bool.true_or, true_and, Nat.add_zero]
            exact ⟨a2, a3, a4⟩
        · intro hl
          have h1 := H4 hl
          have h2 := pages_le (s.made r n)
          rw [eo] at h2 ⊢
          omega
      · simp only [if_neg hfit] at hplace
        exact fresh _ (fun q hq => if_neg hq) (if_pos rfl) (fun p f hc => by rw [ho] at hc; simp only [Option.some.injEq, Prod.mk.injEq] at hc; omega) hplace
  · have hdec : decide (16 < n) = true := by simp; omega
    rw [hdec, Bool.or_true]
    have hplace : s.place r n = (16 * findRun s.owner ((n + 15) / 16), { s with owner := setRun s.owner (findRun s.owner ((n + 15) / 16)) ((n + 15) / 16) r }) := by
      unfold ASt.place
      rw [if_pos (by omega)]
    have eo : (s.made r n).owner = setRun s.owner (findRun s.owner ((n + 15) / 16)) ((n + 15) / 16) r := by unfold ASt.made; rw [hplace]
    have ec : (s.made r n).cur = s.cur := by unfold ASt.made; rw [hplace]
    have eop : (s.made r n).opens = s.opens := (place_many s r n).2.1
    have ece : (s.made r n).cells = s.cells ++ [⟨r, (s.place r n).1, List.replicate n 0⟩] := rfl
    refine ⟨m, ?_, ?_, ?_, fun hl => by cases hl⟩
    · intro q hq'
      rw [eop] at hq'
      rw [eo, countR_setRun (by omega), ece, largL q h16, H1 q hq']
      by_cases e : q = r
      · simp only [e, if_true]; omega
      · simp only [if_neg e, if_neg (Ne.symm e)]; omega
    · intro q hq' hc
      rw [eop] at hq'
      rw [ec] at hc
      rw [ece, smallL q h16, anyL q h16]
      exact H2 q hq' hc
    · intro q hq' p f hc
      rw [eop] at hq'
      rw [ec] at hc
      rw [ece, smallL q h16, anyL q h16]
      exact H3 q hq' p f hc

end Go.Proofs.Ytfoacgdahonapaa.Abs
