/- The store as plain mathematics: regions, pages and cells, what each call does to them, and what stays true of them. No Go text is read here. -/
namespace Go.Proofs.Ytfoacgdahonapaa.Abs

/-- A cell of an open region: its region, its address, its fields. -/
structure ACell where
  reg : Nat
  addr : Nat
  ws : List Int

/-- A store: how many regions were opened, which are open (in the order of opening), each region's current page and how much of it is filled, the owner of each page that is not fresh, the cells of open regions in the order made, how many cells were ever made. -/
structure ASt where
  many : Nat
  opens : List Nat
  cur : Nat → Option (Nat × Nat)
  owner : List (Option Nat)
  cells : List ACell
  ever : Nat

def ASt.empty : ASt := ⟨0, [], fun _ => none, [], [], 0⟩

def ASt.opened (s : ASt) : ASt := { s with many := s.many + 1, opens := s.opens ++ [s.many], cur := fun r => if r = s.many then none else s.cur r }

def ASt.isOpen (s : ASt) (r : Int) : Prop := 0 ≤ r ∧ r.toNat ∈ s.opens
instance (s : ASt) (r : Int) : Decidable (s.isOpen r) := by unfold ASt.isOpen; infer_instance

def ASt.closed (s : ASt) (r : Nat) : ASt :=
  { s with opens := s.opens.filter (· ≠ r), owner := s.owner.map (fun o => if o = some r then none else o), cells := s.cells.filter (·.reg ≠ r) }

/-- Do the k pages from p on wait? -/
def waits (l : List (Option Nat)) (p k : Nat) : Bool := p + k ≤ l.length && (l.drop p).take k == List.replicate k none

/-- The least page from which on k pages wait; if there is none, the least fresh one. -/
def findRun (l : List (Option Nat)) (k : Nat) : Nat := ((List.range l.length).find? (fun p => waits l p k)).getD l.length

/-- The k pages from p on get an owner. -/
def setRun (l : List (Option Nat)) (p k r : Nat) : List (Option Nat) := l.take p ++ List.replicate k (some r) ++ l.drop (p + k)

/-- Where a new cell comes, and the store without it. -/
def ASt.place (s : ASt) (r n : Nat) : Nat × ASt :=
  if 16 < n then
    let k := (n + 15) / 16
    let p := findRun s.owner k
    (16 * p, { s with owner := setRun s.owner p k r })
  else
    match s.cur r with
    | some (p, f) =>
      if f + n ≤ 16 then (16 * p + f, { s with cur := fun q => if q = r then some (p, f + n) else s.cur q })
      else
        let p := findRun s.owner 1
        (16 * p, { s with owner := setRun s.owner p 1 r, cur := fun q => if q = r then some (p, n) else s.cur q })
    | none =>
      let p := findRun s.owner 1
      (16 * p, { s with owner := setRun s.owner p 1 r, cur := fun q => if q = r then some (p, n) else s.cur q })

def ASt.made (s : ASt) (r n : Nat) : ASt :=
  { (s.place r n).2 with cells := s.cells ++ [⟨r, (s.place r n).1, List.replicate n 0⟩], ever := s.ever + 1 }

/-- Is it the cell of that region with that address? -/
def ACell.is (c : ACell) (r a : Int) : Bool := (c.reg : Int) == r && (c.addr : Int) == a

/-- What Get and Set say of a region, an address, a field. -/
def ASt.asked (s : ASt) (r a f : Int) : Int :=
  if s.isOpen r then
    match s.cells.find? (·.is r a) with
    | none => 71
    | some c => if 0 ≤ f ∧ f < c.ws.length then 0 else 72
  else 70

def ASt.got (s : ASt) (r a f : Int) : Int :=
  if s.asked r a f = 0 then
    match s.cells.find? (·.is r a) with
    | none => 0
    | some c => c.ws.getD f.toNat 0
  else 0

def ACell.put (c : ACell) (f : Nat) (v : Int) : ACell := { c with ws := c.ws.set f v }

def ASt.stored (s : ASt) (r a f v : Int) : ASt :=
  if s.asked r a f = 0 then { s with cells := s.cells.map fun c => if c.is r a then c.put f.toNat v else c } else s

def ASt.words (s : ASt) : Nat := (s.cells.map (·.ws.length)).sum
def ASt.pages (s : ASt) : Nat := s.owner.countP (·.isSome)
def ASt.free (s : ASt) : Nat := s.owner.countP (·.isNone)

/-- Two cells have no word in common. -/
def ACell.far (c d : ACell) : Prop := c.addr + c.ws.length ≤ d.addr ∨ d.addr + d.ws.length ≤ c.addr

/-- What is true of every store. -/
structure ASt.Good (s : ASt) : Prop where
  nodup : s.opens.Nodup
  lt : ∀ r ∈ s.opens, r < s.many
  owned : ∀ (p r : Nat), s.owner[p]? = some (some r) → r ∈ s.opens
  reg : ∀ c ∈ s.cells, c.reg ∈ s.opens
  pos : ∀ c ∈ s.cells, 1 ≤ c.ws.length
  paged : ∀ c ∈ s.cells, ∀ j : Nat, c.addr ≤ j → j < c.addr + c.ws.length → s.owner[j / 16]? = some (some c.reg)
  far : s.cells.Pairwise ACell.far
  cur : ∀ r ∈ s.opens, ∀ p f : Nat, s.cur r = some (p, f) → s.owner[p]? = some (some r) ∧ f ≤ 16 ∧
    ∀ c ∈ s.cells, c.addr + c.ws.length ≤ 16 * p + f ∨ 16 * p + 16 ≤ c.addr

theorem good_empty : ASt.empty.Good := by
  constructor <;> simp [ASt.empty]

theorem good_opened {s : ASt} (h : s.Good) : s.opened.Good := by
  have hn : s.many ∉ s.opens := fun hm => Nat.lt_irrefl _ (h.lt _ hm)
  constructor
  · simp only [ASt.opened]
    rw [List.nodup_append]
    exact ⟨h.nodup, by simp, fun a ha b hb => by simp at hb; subst hb; exact fun e => hn (e ▸ ha)⟩
  · intro r hr
    simp only [ASt.opened, List.mem_append, List.mem_singleton] at hr ⊢
    rcases hr with hr | rfl
    · have := h.lt r hr; omega
    · omega
  · intro p r hp; simp only [ASt.opened, List.mem_append] at hp ⊢; exact .inl (h.owned p r hp)
  · intro c hc; simp only [ASt.opened, List.mem_append] at hc ⊢; exact .inl (h.reg c hc)
  · exact h.pos
  · exact h.paged
  · exact h.far
  · intro r hr p f hp
    simp only [ASt.opened, List.mem_append, List.mem_singleton] at hr hp ⊢
    by_cases he : r = s.many
    · simp [he] at hp
    · rw [if_neg he] at hp
      exact h.cur r (hr.resolve_right he) p f hp

theorem good_closed {s : ASt} (h : s.Good) (r : Nat) : (s.closed r).Good := by
  have own : ∀ p q : Nat, q ≠ r → s.owner[p]? = some (some q) → (s.owner.map (fun o => if o = some r then none else o))[p]? = some (some q) := by
    intro p q hq hp
    rw [List.getElem?_map, hp]; simp [hq]
  constructor
  · exact h.nodup.filter _
  · intro q hq; exact h.lt q (List.mem_filter.1 hq).1
  · intro p q hp
    simp only [ASt.closed, List.getElem?_map] at hp ⊢
    cases ho : s.owner[p]? with
    | none => simp [ho] at hp
    | some o =>
      rw [ho] at hp
      simp only [Option.map_some, Option.some.injEq] at hp
      split at hp
      · cases hp
      · rename_i hne
        subst hp
        exact List.mem_filter.2 ⟨h.owned p q ho, by simpa using fun e => hne (by rw [e])⟩
  · intro c hc
    simp only [ASt.closed] at hc ⊢
    have := List.mem_filter.1 hc
    exact List.mem_filter.2 ⟨h.reg c this.1, this.2⟩
  · intro c hc; exact h.pos c (List.mem_filter.1 hc).1
  · intro c hc j h1 h2
    have := List.mem_filter.1 hc
    exact own _ _ (by simpa using this.2) (h.paged c this.1 j h1 h2)
  · exact h.far.filter _
  · intro q hq p f hp
    have hq' := List.mem_filter.1 hq
    obtain ⟨a, b, c⟩ := h.cur q hq'.1 p f hp
    exact ⟨own _ _ (by simpa using hq'.2) a, b, fun d hd => c d (List.mem_filter.1 hd).1⟩


/-! ## Runs of waiting pages -/

theorem waits_iff (l : List (Option Nat)) (p k : Nat) (hk : 0 < k) : waits l p k = true ↔ ∀ j, j < k → l[p + j]? = some none := by
  unfold waits
  simp only [Bool.and_eq_true, decide_eq_true_eq, beq_iff_eq]
  constructor
  · rintro ⟨h1, h2⟩ j hj
    have : ((l.drop p).take k)[j]? = (List.replicate k (none : Option Nat))[j]? := by rw [h2]
    rw [List.getElem?_take, if_pos hj, List.getElem?_drop, List.getElem?_replicate, if_pos hj] at this
    exact this
  · intro h
    have := h (k - 1) (by omega)
    have := (List.getElem?_eq_some_iff.1 this).1
    refine ⟨by omega, ?_⟩
    apply List.ext_getElem?
    intro j
    rw [List.getElem?_take, List.getElem?_drop, List.getElem?_replicate]
    split
    · exact h j ‹_›
    · rfl

/-- Either k pages wait from there on, and from no earlier one; or it is the least fresh page, and k pages wait nowhere. -/
theorem findRun_spec (l : List (Option Nat)) (k : Nat) (hk : 0 < k) :
    (waits l (findRun l k) k = true ∧ findRun l k < l.length ∧ ∀ p, p < findRun l k → waits l p k = false) ∨
    (findRun l k = l.length ∧ ∀ p, waits l p k = false) := by
  have hout : ∀ p, l.length ≤ p → waits l p k = false := by
    intro p hp
    rw [Bool.eq_false_iff]
    intro h
    have := (waits_iff l p k hk).1 h 0 hk
    rw [List.getElem?_eq_none (by omega)] at this
    cases this
  unfold findRun
  cases hf : (List.range l.length).find? (fun p => waits l p k) with
  | none =>
    right
    refine ⟨rfl, fun p => ?_⟩
    by_cases hp : p < l.length
    · have := List.find?_eq_none.1 hf p (List.mem_range.2 hp)
      simpa using this
    · exact hout p (by omega)
  | some q =>
    left
    have h1 := List.find?_some hf
    have h2 := List.mem_range.1 (List.mem_of_find?_eq_some hf)
    refine ⟨h1, h2, fun p hp => ?_⟩
    simp only [Option.getD_some] at hp
    rw [List.find?_range_eq_some] at hf
    have := hf.2.2 p hp
    simpa using this

theorem findRun_le (l : List (Option Nat)) (k : Nat) (hk : 0 < k) : findRun l k ≤ l.length := by
  rcases findRun_spec l k hk with h | h <;> omega

/-- None of the pages that are taken had an owner. -/
theorem findRun_free (l : List (Option Nat)) (k : Nat) (hk : 0 < k) (j : Nat) (h1 : findRun l k ≤ j) (h2 : j < findRun l k + k) (r : Nat) : l[j]? ≠ some (some r) := by
  rcases findRun_spec l k hk with h | h
  · have := (waits_iff l _ k hk).1 h.1 (j - findRun l k) (by omega)
    rw [show findRun l k + (j - findRun l k) = j by omega] at this
    rw [this]; simp
  · rw [List.getElem?_eq_none (by omega)]; simp

theorem setRun_get (l : List (Option Nat)) (p k r j : Nat) (hp : p ≤ l.length) :
    (setRun l p k r)[j]? = if p ≤ j ∧ j < p + k then some (some r) else l[j]? := by
  unfold setRun
  rw [List.append_assoc]
  by_cases h1 : j < p
  · rw [List.getElem?_append_left (by rw [List.length_take]; omega), List.getElem?_take, if_pos h1, if_neg (by omega)]
  · rw [List.getElem?_append_right (by rw [List.length_take]; omega), List.length_take, Nat.min_eq_left hp]
    by_cases h2 : j < p + k
    · rw [List.getElem?_append_left (by rw [List.length_replicate]; omega), List.getElem?_replicate, if_pos (by omega), if_pos ⟨by omega, h2⟩]
    · rw [List.getElem?_append_right (by rw [List.length_replicate]; omega), List.length_replicate, List.getElem?_drop, if_neg (by omega)]
      congr 1; omega

theorem setRun_length (l : List (Option Nat)) (p k r : Nat) (hp : p ≤ l.length) : (setRun l p k r).length = max l.length (p + k) := by
  unfold setRun
  simp only [List.length_append, List.length_take, List.length_replicate, List.length_drop]
  omega

theorem cellPages {n j p k : Nat} (hk : (n + 15) / 16 = k) (h1 : 16 * p ≤ j) (h2 : j < 16 * p + n) : p ≤ j / 16 ∧ j / 16 < p + k := by omega

/-- What a place for a new cell is. -/
structure Placed (s : ASt) (r n a : Nat) (t : ASt) : Prop where
  many : t.many = s.many
  opens : t.opens = s.opens
  cells : t.cells = s.cells
  old : ∀ (q x : Nat), s.owner[q]? = some (some x) → t.owner[q]? = some (some x)
  new : ∀ (q x : Nat), t.owner[q]? = some (some x) → s.owner[q]? = some (some x) ∨ x = r
  mine : ∀ j : Nat, a ≤ j → j < a + n → t.owner[j / 16]? = some (some r)
  far : ∀ c ∈ s.cells, c.addr + c.ws.length ≤ a ∨ a + n ≤ c.addr
  cur : ∀ q ∈ s.opens, ∀ p f : Nat, t.cur q = some (p, f) → t.owner[p]? = some (some q) ∧ f ≤ 16 ∧
    (∀ c ∈ s.cells, c.addr + c.ws.length ≤ 16 * p + f ∨ 16 * p + 16 ≤ c.addr) ∧ (a + n ≤ 16 * p + f ∨ 16 * p + 16 ≤ a)

/-- A place on pages of its own. -/
theorem placed_run {s : ASt} (h : s.Good) {r n k : Nat} (hn : 1 ≤ n) (hk : (n + 15) / 16 = k) (cur : Nat → Option (Nat × Nat))
    (hcur : ∀ q p f, cur q = some (p, f) → s.cur q = some (p, f) ∨ (q = r ∧ p = findRun s.owner k ∧ f = n ∧ n ≤ 16)) :
    Placed s r n (16 * findRun s.owner k) { s with owner := setRun s.owner (findRun s.owner k) k r, cur := cur } := by
  have hk0 : 0 < k := by omega
  have hle := findRun_le s.owner k hk0
  have hfree := findRun_free s.owner k hk0
  have hfar : ∀ c ∈ s.cells, c.addr + c.ws.length ≤ 16 * findRun s.owner k ∨ 16 * findRun s.owner k + 16 * k ≤ c.addr := by
    intro c hc
    have hp := h.pos c hc
    by_cases h1 : c.addr + c.ws.length ≤ 16 * findRun s.owner k
    · exact .inl h1
    · right
      by_cases h2 : 16 * findRun s.owner k + 16 * k ≤ c.addr
      · exact h2
      · exfalso
        by_cases h3 : c.addr < 16 * findRun s.owner k
        · have := h.paged c hc (16 * findRun s.owner k) (by omega) (by omega)
          rw [Nat.mul_div_cancel_left _ (by omega)] at this
          exact hfree _ (by omega) (by omega) _ this
        · have := h.paged c hc c.addr (by omega) (by omega)
          exact hfree _ (by omega) (by omega) _ this
  refine ⟨rfl, rfl, rfl, ?_, ?_, ?_, ?_, ?_⟩
  · intro q x hq
    rw [setRun_get _ _ _ _ _ hle, if_neg]
    · exact hq
    · rintro ⟨h1, h2⟩; exact hfree q h1 h2 x hq
  · intro q x hq
    rw [setRun_get _ _ _ _ _ hle] at hq
    split at hq
    · right; simpa using hq.symm
    · exact .inl hq
  · intro j h1 h2
    rw [setRun_get _ _ _ _ _ hle, if_pos (cellPages hk h1 h2)]
  · intro c hc
    rcases hfar c hc with h1 | h1 <;> omega
  · intro q hq p f hp
    rcases hcur q p f hp with h1 | ⟨rfl, rfl, rfl, h16⟩
    · obtain ⟨a, b, c⟩ := h.cur q hq p f h1
      have hout : ¬ (findRun s.owner k ≤ p ∧ p < findRun s.owner k + k) := fun ⟨x, y⟩ => hfree p x y q a
      refine ⟨?_, b, c, by omega⟩
      rw [setRun_get _ _ _ _ _ hle, if_neg hout]
      exact a
    · refine ⟨?_, h16, ?_, by omega⟩
      · rw [setRun_get _ _ _ _ _ hle, if_pos (by omega)]
      · intro c hc
        rcases hfar c hc with h1 | h1 <;> omega

theorem placed {s : ASt} (h : s.Good) {r n : Nat} (hr : r ∈ s.opens) (hn : 1 ≤ n) : Placed s r n (s.place r n).1 (s.place r n).2 := by
  unfold ASt.place
  split
  · rename_i h16
    exact placed_run h hn rfl s.cur (fun q p f hp => .inl hp)
  · rename_i h16
    have fresh : Placed s r n (16 * findRun s.owner 1) { s with owner := setRun s.owner (findRun s.owner 1) 1 r, cur := fun q => if q = r then some (findRun s.owner 1, n) else s.cur q } := by
      refine placed_run h hn (by omega) _ (fun q p f hp => ?_)
      by_cases hq : q = r
      · rw [if_pos hq] at hp
        simp only [Option.some.injEq, Prod.mk.injEq] at hp
        exact .inr ⟨hq, hp.1.symm, hp.2.symm, by omega⟩
      · rw [if_neg hq] at hp; exact .inl hp
    split
    · rename_i p f hc
      split
      · rename_i hfit
        obtain ⟨hown, hf, hcells⟩ := h.cur r hr p f hc
        refine ⟨rfl, rfl, rfl, fun _ _ hq => hq, fun _ _ hq => .inl hq, ?_, ?_, ?_⟩
        · intro j h1 h2
          rw [show j / 16 = p by omega]; exact hown
        · intro c hcc
          have := hcells c hcc
          omega
        · intro q hq p' f' hp'
          by_cases he : q = r
          · subst he
            simp only [if_true, Option.some.injEq, Prod.mk.injEq] at hp'
            obtain ⟨rfl, rfl⟩ := hp'
            refine ⟨hown, hfit, fun c hcc => ?_, by omega⟩
            have := hcells c hcc
            omega
          · simp only [if_neg he] at hp'
            obtain ⟨a, b, c⟩ := h.cur q hq p' f' hp'
            refine ⟨a, b, c, ?_⟩
            have hne : p' ≠ p := by
              intro e; subst e; rw [hown] at a; simp at a; exact he a.symm
            omega
      · exact fresh
    · exact fresh

theorem good_made {s : ASt} (h : s.Good) {r n : Nat} (hr : r ∈ s.opens) (hn : 1 ≤ n) : (s.made r n).Good := by
  have P := placed h hr hn
  unfold ASt.made
  generalize hp : s.place r n = q at P ⊢
  obtain ⟨a, t⟩ := q
  simp only at P ⊢
  have hlen : (List.replicate n (0 : Int)).length = n := List.length_replicate
  refine ⟨?_, ?_, ?_, ?_, ?_, ?_, ?_, ?_⟩
  · simp only [P.opens]; exact h.nodup
  · intro x hx
    simp only [P.opens, P.many] at hx ⊢
    exact h.lt x hx
  · intro p x hx
    simp only [P.opens]
    rcases P.new p x hx with h1 | rfl
    · exact h.owned p x h1
    · exact hr
  · intro c hc
    simp only [P.opens]
    rcases List.mem_append.1 hc with h1 | h1
    · exact h.reg c h1
    · simp at h1; subst h1; exact hr
  · intro c hc
    rcases List.mem_append.1 hc with h1 | h1
    · exact h.pos c h1
    · simp at h1; subst h1; simp only [hlen]; exact hn
  · intro c hc j h1 h2
    rcases List.mem_append.1 hc with h3 | h3
    · exact P.old _ _ (h.paged c h3 j h1 h2)
    · simp at h3; subst h3
      simp only [hlen] at h1 h2 ⊢
      exact P.mine j h1 h2
  · rw [List.pairwise_append]
    refine ⟨h.far, List.pairwise_singleton _ _, ?_⟩
    intro c hc d hd
    simp at hd; subst hd
    unfold ACell.far
    simp only [hlen]
    exact P.far c hc
  · intro x hx p f hp'
    simp only [P.opens] at hx
    obtain ⟨a1, a2, a3, a4⟩ := P.cur x hx p f hp'
    refine ⟨a1, a2, fun c hc => ?_⟩
    rcases List.mem_append.1 hc with h1 | h1
    · exact a3 c h1
    · simp at h1; subst h1; simp only [hlen]; exact a4

/-! ## Reading and writing -/

theorem is_iff (c : ACell) (r a : Int) : c.is r a = true ↔ (c.reg : Int) = r ∧ (c.addr : Int) = a := by
  simp [ACell.is]

/-- A region's cell is found by its address. -/
theorem find_cell {s : ASt} (h : s.Good) {c : ACell} (hc : c ∈ s.cells) : s.cells.find? (·.is c.reg c.addr) = some c := by
  obtain ⟨k, hk, rfl⟩ := List.mem_iff_getElem.1 hc
  rw [List.find?_eq_some_iff_getElem]
  refine ⟨by simp [is_iff], k, hk, rfl, fun j hj => ?_⟩
  rw [Bool.not_eq_true', Bool.eq_false_iff]
  intro he
  have he := (is_iff _ _ _).1 he
  have hf : (s.cells[j]).far s.cells[k] := (List.pairwise_iff_getElem.1 h.far) j k (by omega) hk hj
  have p1 := h.pos s.cells[j] (List.getElem_mem _)
  have p2 := h.pos s.cells[k] (List.getElem_mem _)
  unfold ACell.far at hf
  omega

theorem isOpen_reg {s : ASt} (h : s.Good) {c : ACell} (hc : c ∈ s.cells) : s.isOpen c.reg := ⟨by omega, by simpa using h.reg c hc⟩

theorem asked_cell {s : ASt} (h : s.Good) {c : ACell} (hc : c ∈ s.cells) (f : Int) : s.asked c.reg c.addr f = if 0 ≤ f ∧ f < c.ws.length then 0 else 72 := by
  unfold ASt.asked
  rw [if_pos (isOpen_reg h hc), find_cell h hc]

theorem got_cell {s : ASt} (h : s.Good) {c : ACell} (hc : c ∈ s.cells) (k : Nat) (hk : k < c.ws.length) : s.got c.reg c.addr k = c.ws.getD k 0 := by
  unfold ASt.got
  rw [asked_cell h hc, if_pos (if_pos ⟨by omega, by omega⟩), find_cell h hc]
  rfl

theorem asked_shut {s : ASt} {r : Int} (h : ¬ s.isOpen r) (a f : Int) : s.asked r a f = 70 := by
  unfold ASt.asked; rw [if_neg h]

/-- Writing a field changes neither where a cell lies nor how many fields it has. -/
def ACell.like (c d : ACell) : Prop := c.reg = d.reg ∧ c.addr = d.addr ∧ c.ws.length = d.ws.length

def wr (r a : Int) (f : Nat) (v : Int) (c : ACell) : ACell := if c.is r a then c.put f v else c

theorem wr_like (r a : Int) (f : Nat) (v : Int) (c : ACell) : (wr r a f v c).like c := by
  unfold wr ACell.like ACell.put
  split <;> simp

theorem stored_cells {s : ASt} {r a f : Int} (v : Int) (h : s.asked r a f = 0) : s.stored r a f v = { s with cells := s.cells.map (wr r a f.toNat v) } := by
  unfold ASt.stored; rw [if_pos h]; rfl

theorem good_map {s : ASt} (h : s.Good) {g : ACell → ACell} (hg : ∀ c, (g c).like c) : ({ s with cells := s.cells.map g } : ASt).Good := by
  refine ⟨h.nodup, h.lt, h.owned, ?_, ?_, ?_, ?_, ?_⟩
  · intro c hc
    obtain ⟨d, hd, rfl⟩ := List.mem_map.1 hc
    rw [(hg d).1]; exact h.reg d hd
  · intro c hc
    obtain ⟨d, hd, rfl⟩ := List.mem_map.1 hc
    rw [(hg d).2.2]; exact h.pos d hd
  · intro c hc j h1 h2
    obtain ⟨d, hd, rfl⟩ := List.mem_map.1 hc
    rw [(hg d).2.1] at h1 h2
    rw [(hg d).2.2] at h2
    rw [(hg d).1]
    exact h.paged d hd j h1 h2
  · rw [List.pairwise_map]
    refine h.far.imp ?_
    intro c d hf
    unfold ACell.far at hf ⊢
    rw [(hg c).2.1, (hg d).2.1, (hg c).2.2, (hg d).2.2]
    exact hf
  · intro q hq p f hp
    obtain ⟨a, b, c⟩ := h.cur q hq p f hp
    refine ⟨a, b, fun x hx => ?_⟩
    obtain ⟨d, hd, rfl⟩ := List.mem_map.1 hx
    rw [(hg d).2.1, (hg d).2.2]
    exact c d hd

theorem good_stored {s : ASt} (h : s.Good) (r a f v : Int) : (s.stored r a f v).Good := by
  by_cases h0 : s.asked r a f = 0
  · rw [stored_cells v h0]; exact good_map h (wr_like r a f.toNat v)
  · unfold ASt.stored; rw [if_neg h0]; exact h

/-- What a store's sizes are behind n calls, at most. -/
structure ASt.Within (s : ASt) (n : Nat) : Prop where
  many : s.many ≤ n
  cells : s.cells.length ≤ n
  owner : s.owner.length ≤ 257 * n
  wide : ∀ c ∈ s.cells, c.ws.length ≤ 4097
  opens : s.opens.length ≤ n
  ever : s.ever ≤ n

theorem ASt.Within.mono {s : ASt} {n m : Nat} (h : s.Within n) (hm : n ≤ m) : s.Within m := ⟨by have := h.many; omega, by have := h.cells; omega, by have := h.owner; omega, h.wide, by have := h.opens; omega, by have := h.ever; omega⟩

theorem within_empty (n : Nat) : ASt.empty.Within n := ⟨by simp [ASt.empty], by simp [ASt.empty], by simp [ASt.empty], by simp [ASt.empty], by simp [ASt.empty], by simp [ASt.empty]⟩
theorem within_opened {s : ASt} {n : Nat} (h : s.Within n) : s.opened.Within (n + 1) :=
  ⟨by have := h.many; simp only [ASt.opened]; omega, by have := h.cells; simp only [ASt.opened]; omega, by have := h.owner; simp only [ASt.opened]; omega, h.wide, by have := h.opens; simp only [ASt.opened, List.length_append, List.length_singleton]; omega, by have := h.ever; simp only [ASt.opened]; omega⟩
theorem within_closed {s : ASt} {n : Nat} (h : s.Within n) (r : Nat) : (s.closed r).Within n :=
  ⟨h.many, Nat.le_trans (List.length_filter_le _ _) h.cells, by simp only [ASt.closed, List.length_map]; exact h.owner, fun c hc => h.wide c (List.mem_filter.1 hc).1, Nat.le_trans (List.length_filter_le _ _) h.opens, h.ever⟩
theorem within_stored {s : ASt} {n : Nat} (h : s.Within n) (r a f v : Int) : (s.stored r a f v).Within n := by
  unfold ASt.stored
  split
  · refine ⟨h.many, by simp only [List.length_map]; exact h.cells, h.owner, fun c hc => ?_, h.opens, h.ever⟩
    obtain ⟨d, hd, rfl⟩ := List.mem_map.1 hc
    have := wr_like r a f.toNat v d
    unfold wr at this
    rw [this.2.2]; exact h.wide d hd
  · exact h

theorem place_owner {s : ASt} (r : Nat) {n : Nat} (hn : 1 ≤ n) (h : n ≤ 4097) : (s.place r n).2.owner.length ≤ s.owner.length + 257 := by
  have big : ∀ k, 0 < k → k ≤ 257 → (setRun s.owner (findRun s.owner k) k r).length ≤ s.owner.length + 257 := by
    intro k h1 h2
    rw [setRun_length _ _ _ _ (findRun_le _ _ h1)]
    have := findRun_le s.owner k h1
    omega
  unfold ASt.place
  split
  · exact big _ (by omega) (by omega)
  · split
    · split
      · simp
      · exact big 1 (by omega) (by omega)
    · exact big 1 (by omega) (by omega)

theorem place_many (s : ASt) (r n : Nat) : (s.place r n).2.many = s.many ∧ (s.place r n).2.opens = s.opens ∧ (s.place r n).2.cells = s.cells := by
  unfold ASt.place
  split
  · exact ⟨rfl, rfl, rfl⟩
  · split
    · split <;> exact ⟨rfl, rfl, rfl⟩
    · exact ⟨rfl, rfl, rfl⟩

theorem within_made {s : ASt} {m : Nat} (h : s.Within m) (r : Nat) {n : Nat} (hn : 1 ≤ n) (h2 : n ≤ 4097) : (s.made r n).Within (m + 1) := by
  have h1 := h.many
  have h3 := h.cells
  have h4 := h.owner
  have h5 := place_owner (s := s) r hn h2
  refine ⟨?_, ?_, ?_, ?_, ?_, ?_⟩
  · simp only [ASt.made, (place_many s r n).1]; omega
  · simp only [ASt.made, List.length_append, List.length_singleton]; omega
  · simp only [ASt.made]; omega
  · intro c hc
    rcases List.mem_append.1 hc with hc | hc
    · exact h.wide c hc
    · simp at hc; subst hc; simpa using h2
  · have := h.opens; simp only [ASt.made, (place_many s r n).2.1]; omega
  · have := h.ever; simp only [ASt.made]; omega

end Go.Proofs.Ytfoacgdahonapaa.Abs
