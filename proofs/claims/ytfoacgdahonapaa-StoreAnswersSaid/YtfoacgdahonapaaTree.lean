/- Rows of a tree of bits: from the first one on, up to the last one, at most; a row of two; the tree kept right; the least place of so many in a row. Plain mathematics. -/
namespace Go.Proofs.Ytfoacgdahonapaa.Tree

/-- From p on, k bits are set. -/
def Run (b : Nat → Bool) (p k : Nat) : Prop := ∀ j, p ≤ j → j < p + k → b j = true

/-- A node's row. -/
structure Rw where
  f : Nat
  k : Nat
  m : Nat
deriving DecidableEq, Inhabited

/-- A row tells of the bits from lo on, sz of them. -/
structure Sp (b : Nat → Bool) (lo sz : Nat) (r : Rw) : Prop where
  fle : r.f ≤ sz
  frun : Run b lo r.f
  fend : r.f < sz → b (lo + r.f) = false
  kle : r.k ≤ sz
  krun : Run b (lo + sz - r.k) r.k
  kend : r.k < sz → b (lo + sz - r.k - 1) = false
  mle : r.m ≤ sz
  mrun : ∃ p, lo ≤ p ∧ p + r.m ≤ lo + sz ∧ Run b p r.m
  most : ∀ p k, lo ≤ p → p + k ≤ lo + sz → Run b p k → k ≤ r.m

def joined (l r : Rw) (sz : Nat) : Rw :=
  ⟨if l.f = sz then l.f + r.f else l.f, if r.k = sz then r.k + l.k else r.k, max (max l.m r.m) (l.k + r.f)⟩

theorem Run.sub {b : Nat → Bool} {p k q i : Nat} (h : Run b p k) (h1 : p ≤ q) (h2 : q + i ≤ p + k) : Run b q i :=
  fun j a c => h j (by omega) (by omega)

theorem Run.join {b : Nat → Bool} {p k i : Nat} (h : Run b p k) (g : Run b (p + k) i) : Run b p (k + i) :=
  fun j a c => by
    by_cases e : j < p + k
    · exact h j a e
    · exact g j (by omega) (by omega)

/-- A run from lo on is no longer than the row's first. -/
theorem Sp.front_most {b : Nat → Bool} {lo sz : Nat} {r : Rw} (h : Sp b lo sz r) {k : Nat} (hk : k ≤ sz) (hr : Run b lo k) : k ≤ r.f := by
  by_cases hlt : r.f < k
  · have h1 := h.fend (by omega)
    rw [hr (lo + r.f) (by omega) (by omega)] at h1
    cases h1
  · omega

theorem Sp.back_most {b : Nat → Bool} {lo sz : Nat} {r : Rw} (h : Sp b lo sz r) {k : Nat} (hk : k ≤ sz) (hr : Run b (lo + sz - k) k) : k ≤ r.k := by
  by_cases hlt : r.k < k
  · have h1 := h.kend (by omega)
    rw [hr (lo + sz - r.k - 1) (by omega) (by omega)] at h1
    cases h1
  · omega

theorem Sp.join {b : Nat → Bool} {lo sz : Nat} {l r : Rw} (hl : Sp b lo sz l) (hr : Sp b (lo + sz) sz r) : Sp b lo (sz + sz) (joined l r sz) := by
  have l1 := hl.fle
  have l2 := hl.kle
  have l3 := hl.mle
  have r1 := hr.fle
  have r2 := hr.kle
  have r3 := hr.mle
  constructor
  · simp only [joined]; split <;> omega
  · simp only [joined]
    split
    · rename_i e
      exact hl.frun.join (by rw [e]; exact hr.frun)
    · exact hl.frun
  · simp only [joined]
    split
    · rename_i e
      intro h
      have := hr.fend (by omega)
      rw [e, ← Nat.add_assoc]; exact this
    · intro _
      exact hl.fend (by omega)
  · simp only [joined]; split <;> omega
  · simp only [joined]
    split
    · rename_i e
      have a1 : Run b (lo + sz - l.k) l.k := hl.krun
      have a2 : Run b (lo + sz) sz := by have := hr.krun; rw [e] at this; simpa using this
      have a3 : Run b (lo + sz - l.k) (l.k + sz) := a1.join (by rw [show lo + sz - l.k + l.k = lo + sz by omega]; exact a2)
      rw [show lo + (sz + sz) - (r.k + l.k) = lo + sz - l.k by omega, show r.k + l.k = l.k + sz by omega]
      exact a3
    · rw [← Nat.add_assoc]; exact hr.krun
  · simp only [joined]
    split
    · rename_i e
      intro h
      have := hl.kend (by omega)
      rw [show lo + (sz + sz) - (r.k + l.k) - 1 = lo + sz - l.k - 1 by omega]; exact this
    · intro _
      have := hr.kend (by omega)
      rw [← Nat.add_assoc]; exact this
  · simp only [joined]; omega
  · simp only [joined]
    obtain ⟨p, hp1, hp2, hp3⟩ := hl.mrun
    obtain ⟨q, hq1, hq2, hq3⟩ := hr.mrun
    by_cases c1 : l.k + r.f ≤ max l.m r.m
    · rw [Nat.max_eq_left c1]
      by_cases c2 : l.m ≤ r.m
      · rw [Nat.max_eq_right c2]; exact ⟨q, by omega, by omega, hq3⟩
      · rw [Nat.max_eq_left (by omega)]; exact ⟨p, by omega, by omega, hp3⟩
    · rw [Nat.max_eq_right (by omega)]
      exact ⟨lo + sz - l.k, by omega, by omega, hl.krun.join (by rw [show lo + sz - l.k + l.k = lo + sz by omega]; exact hr.frun)⟩
  · intro p k h1 h2 h3
    simp only [joined]
    by_cases c1 : p + k ≤ lo + sz
    · have := hl.most p k h1 c1 h3; omega
    · by_cases c2 : lo + sz ≤ p
      · have := hr.most p k c2 (by omega) h3; omega
      · have a1 := hl.back_most (k := lo + sz - p) (by omega) (h3.sub (by omega) (by omega))
        have a2 := hr.front_most (k := p + k - (lo + sz)) (by omega) (h3.sub (by omega) (by omega))
        omega

theorem Sp.same {b c : Nat → Bool} {lo sz : Nat} {r : Rw} (h : Sp b lo sz r) (e : ∀ j, lo ≤ j → j < lo + sz → c j = b j) : Sp c lo sz r := by
  have tr : ∀ p k, lo ≤ p → p + k ≤ lo + sz → Run b p k → Run c p k := fun p k h1 h2 h3 j a d => by rw [e j (by omega) (by omega)]; exact h3 j a d
  have rt : ∀ p k, lo ≤ p → p + k ≤ lo + sz → Run c p k → Run b p k := fun p k h1 h2 h3 j a d => by rw [← e j (by omega) (by omega)]; exact h3 j a d
  have l1 := h.fle
  have l2 := h.kle
  have l3 := h.mle
  refine ⟨l1, tr _ _ (by omega) (by omega) h.frun, fun x => ?_, l2, tr _ _ (by omega) (by omega) h.krun, fun x => ?_, l3, ?_, fun p k a d g => h.most p k a d (rt p k a d g)⟩
  · rw [e _ (by omega) (by omega)]; exact h.fend x
  · rw [e _ (by omega) (by omega)]; exact h.kend x
  · obtain ⟨p, a, d, g⟩ := h.mrun
    exact ⟨p, a, d, tr _ _ a d g⟩

theorem Sp.none {b : Nat → Bool} {lo sz : Nat} (h : ∀ j, lo ≤ j → j < lo + sz → b j = false) : Sp b lo sz ⟨0, 0, 0⟩ := by
  refine ⟨Nat.zero_le _, fun j a d => by simp only at d; omega, fun x => h _ (by simp) (by simp only at x ⊢; omega), Nat.zero_le _, fun j a d => by simp only at a d; omega, fun x => h _ (by simp only at x ⊢; omega) (by simp only at x ⊢; omega), Nat.zero_le _, ⟨lo, by omega, by simp, fun j a d => by simp only at d; omega⟩, ?_⟩
  intro p k h1 h2 h3
  by_cases hk : 0 < k
  · have := h3 p (by omega) (by omega)
    rw [h p h1 (by omega)] at this
    cases this
  · simp only; omega

theorem Sp.one {b : Nat → Bool} {lo : Nat} (h : b lo = true) : Sp b lo 1 ⟨1, 1, 1⟩ := by
  have hr : Run b lo 1 := fun j a d => by rw [show j = lo by omega]; exact h
  exact ⟨Nat.le_refl _, hr, fun x => by simp at x, Nat.le_refl _, by simpa using hr, fun x => by simp at x, Nat.le_refl _, ⟨lo, by omega, by simp, hr⟩, fun p k h1 h2 _ => by simp only; omega⟩

/-- A bit's own row. -/
def bit (v : Bool) : Rw := if v then ⟨1, 1, 1⟩ else ⟨0, 0, 0⟩

theorem Sp.bit {b : Nat → Bool} {lo : Nat} : Sp b lo 1 (bit (b lo)) := by
  unfold Tree.bit
  cases h : b lo
  · exact Sp.none (fun j a d => by rw [show j = lo by omega]; exact h)
  · exact Sp.one h

/-- Node n of the level with 2^e nodes tells of 2^(D-e) bits. -/
def Ok (b : Nat → Bool) (D : Nat) (r : Nat → Rw) (e n : Nat) : Prop := Sp b ((n - 2 ^ e) * 2 ^ (D - e)) (2 ^ (D - e)) (r n)

/-- The levels from d on are right; so are the others, but for the nodes over the nodes low to high of level d. -/
structure Upto (b : Nat → Bool) (D : Nat) (r : Nat → Rw) (d low high : Nat) : Prop where
  here : ∀ e, d ≤ e → e ≤ D → ∀ n, 2 ^ e ≤ n → n < 2 ^ (e + 1) → Ok b D r e n
  off : ∀ e, e < d → ∀ n, 2 ^ e ≤ n → n < 2 ^ (e + 1) → (high < n * 2 ^ (d - e) ∨ (n + 1) * 2 ^ (d - e) ≤ low) → Ok b D r e n

/-- All is right. -/
def Right (b : Nat → Bool) (D : Nat) (r : Nat → Rw) : Prop := ∀ e, e ≤ D → ∀ n, 2 ^ e ≤ n → n < 2 ^ (e + 1) → Ok b D r e n

theorem Upto.right {b : Nat → Bool} {D : Nat} {r : Nat → Rw} {low high : Nat} (h : Upto b D r 0 low high) : Right b D r := fun e he n h1 h2 => h.here e (Nat.zero_le _) he n h1 h2

theorem Ok.parent {b : Nat → Bool} {D : Nat} {r : Nat → Rw} {e n : Nat} (he : e < D) (hn : 2 ^ e ≤ n) (h0 : Ok b D r (e + 1) (2 * n)) (h1 : Ok b D r (e + 1) (2 * n + 1)) :
    Sp b ((n - 2 ^ e) * 2 ^ (D - e)) (2 ^ (D - e)) (joined (r (2 * n)) (r (2 * n + 1)) (2 ^ (D - (e + 1)))) := by
  unfold Ok at h0 h1
  have e1 : D - e = D - (e + 1) + 1 := by omega
  have e2 : 2 ^ (e + 1) = 2 * 2 ^ e := by rw [Nat.pow_succ]; omega
  have e3 : 2 * n - 2 ^ (e + 1) = 2 * (n - 2 ^ e) := by rw [e2]; omega
  have e4 : 2 * n + 1 - 2 ^ (e + 1) = 2 * (n - 2 ^ e) + 1 := by rw [e2]; omega
  rw [e3] at h0
  rw [e4] at h1
  rw [e1, Nat.pow_succ]
  generalize n - 2 ^ e = i at h0 h1 ⊢
  generalize 2 ^ (D - (e + 1)) = s at h0 h1 ⊢
  have e5 : i * (s * 2) = 2 * i * s := by rw [Nat.mul_comm s 2, ← Nat.mul_assoc, Nat.mul_comm i 2]
  have e6 : (2 * i + 1) * s = 2 * i * s + s := by rw [Nat.add_mul, Nat.one_mul]
  rw [e6] at h1
  rw [e5, Nat.mul_two]
  exact h0.join h1

/-- The nodes of the level above, as far as they must be, are made anew: the round's end. -/
theorem Upto.up {b : Nat → Bool} {D : Nat} {r r' : Nat → Rw} {d low high : Nat} (h : Upto b D r (d + 1) low high) (hd : d < D)
    (hin : ∀ n, low / 2 ≤ n → n ≤ high / 2 → r' n = joined (r (2 * n)) (r (2 * n + 1)) (2 ^ (D - (d + 1))))
    (hout : ∀ n, (n < low / 2 ∨ high / 2 < n) → r' n = r n) (hlow : 2 ^ (d + 1) ≤ low) (hhigh : high < 2 ^ (d + 2)) : Upto b D r' d (low / 2) (high / 2) := by
  have p1 : 2 ^ (d + 1) = 2 * 2 ^ d := by rw [Nat.pow_succ]; omega
  have p2 : 2 ^ (d + 2) = 2 * 2 ^ (d + 1) := by rw [Nat.pow_succ]; omega
  constructor
  · intro e h1 h2 n n1 n2
    by_cases he : e = d
    · subst he
      by_cases hn : low / 2 ≤ n ∧ n ≤ high / 2
      · unfold Ok
        rw [hin n hn.1 hn.2]
        exact Ok.parent hd n1 (h.here (e + 1) (Nat.le_refl _) (by omega) _ (by omega) (by omega)) (h.here (e + 1) (Nat.le_refl _) (by omega) _ (by omega) (by omega))
      · unfold Ok
        rw [hout n (by omega)]
        refine h.off e (by omega) n n1 n2 ?_
        rw [show e + 1 - e = 1 by omega, Nat.pow_one]
        omega
    · unfold Ok
      have q : 2 ^ (d + 1) ≤ 2 ^ e := Nat.pow_le_pow_right (by omega) (by omega)
      rw [hout n (by omega)]
      exact h.here e (by omega) h2 n n1 n2
  · intro e he n n1 n2 hoff
    have q : 2 ^ (e + 1) ≤ 2 ^ d := Nat.pow_le_pow_right (by omega) (by omega)
    unfold Ok
    rw [hout n (by omega)]
    refine h.off e (by omega) n n1 n2 ?_
    have s1 : d + 1 - e = d - e + 1 := by omega
    rw [s1, Nat.pow_succ, ← Nat.mul_assoc, ← Nat.mul_assoc]
    generalize n * 2 ^ (d - e) = x at hoff ⊢
    generalize (n + 1) * 2 ^ (d - e) = y at hoff ⊢
    omega

/-- At the leaves: all but the stretch's own nodes tell what they told. -/
theorem Upto.leaves {b c : Nat → Bool} {D : Nat} {r r' : Nat → Rw} {p k : Nat} (h : Right b D r) (hpk : p + k ≤ 2 ^ D)
    (hin : ∀ i, p ≤ i → i < p + k → r' (2 ^ D + i) = bit (c i)) (hout : ∀ n, (n < 2 ^ D + p ∨ 2 ^ D + p + k ≤ n) → r' n = r n)
    (hc : ∀ i, (i < p ∨ p + k ≤ i) → c i = b i) : Upto c D r' D (2 ^ D + p) (2 ^ D + p + k - 1) := by
  have p1 : 2 ^ (D + 1) = 2 * 2 ^ D := by rw [Nat.pow_succ]; omega
  constructor
  · intro e h1 h2 n n1 n2
    have he : e = D := by omega
    subst he
    unfold Ok
    rw [Nat.sub_self, Nat.pow_zero, Nat.mul_one]
    by_cases hn : n < 2 ^ e + p ∨ 2 ^ e + p + k ≤ n
    · have := h e (Nat.le_refl _) n n1 n2
      unfold Ok at this
      rw [Nat.sub_self, Nat.pow_zero, Nat.mul_one] at this
      rw [hout n hn]
      refine this.same (fun j a d => hc j (by omega))
    · have := hin (n - 2 ^ e) (by omega) (by omega)
      rw [show 2 ^ e + (n - 2 ^ e) = n by omega] at this
      rw [this]
      exact Sp.bit
  · intro e he n n1 n2 hoff
    have q : 2 ^ (e + 1) ≤ 2 ^ D := Nat.pow_le_pow_right (by omega) (by omega)
    unfold Ok
    rw [hout n (by omega)]
    refine Sp.same (h e (by omega) n n1 n2) (fun j a d => hc j ?_)
    have s1 : 2 ^ D = 2 ^ e * 2 ^ (D - e) := by rw [← Nat.pow_add]; congr 1; omega
    rw [Nat.sub_mul] at a d
    rw [Nat.add_mul, Nat.one_mul] at hoff
    have s2 : 2 ^ e * 2 ^ (D - e) ≤ n * 2 ^ (D - e) := Nat.mul_le_mul_right _ n1
    rw [← s1] at a d s2
    omega

/-- A new tree, all of whose nodes are empty but for the first leaves. -/
theorem Upto.fresh {b : Nat → Bool} {D k : Nat} {r : Nat → Rw} (hk : k ≤ 2 ^ D) (hin : ∀ i, i < k → r (2 ^ D + i) = bit (b i)) (hout : ∀ n, (n < 2 ^ D ∨ 2 ^ D + k ≤ n) → r n = ⟨0, 0, 0⟩)
    (hb : ∀ i, k ≤ i → b i = false) : Upto b D r D (2 ^ D) (2 ^ D + k - 1) := by
  have p1 : 2 ^ (D + 1) = 2 * 2 ^ D := by rw [Nat.pow_succ]; omega
  have p0 : 0 < 2 ^ D := Nat.two_pow_pos D
  constructor
  · intro e h1 h2 n n1 n2
    have he : e = D := by omega
    subst he
    unfold Ok
    rw [Nat.sub_self, Nat.pow_zero, Nat.mul_one]
    by_cases hn : n < 2 ^ e + k
    · have := hin (n - 2 ^ e) (by omega)
      rw [show 2 ^ e + (n - 2 ^ e) = n by omega] at this
      rw [this]
      exact Sp.bit
    · rw [hout n (by omega)]
      exact Sp.none (fun j a d => hb j (by omega))
  · intro e he n n1 n2 hoff
    have q : 2 ^ (e + 1) ≤ 2 ^ D := Nat.pow_le_pow_right (by omega) (by omega)
    unfold Ok
    rw [hout n (by omega)]
    refine Sp.none (fun j a d => hb j ?_)
    have s1 : 2 ^ D = 2 ^ e * 2 ^ (D - e) := by rw [← Nat.pow_add]; congr 1; omega
    rw [Nat.sub_mul] at a d
    rw [Nat.add_mul, Nat.one_mul] at hoff
    have s2 : 2 ^ e * 2 ^ (D - e) ≤ n * 2 ^ (D - e) := Nat.mul_le_mul_right _ n1
    have s3 : 2 ^ (D - e) ≤ 2 ^ (D - e) * 1 := by omega
    have s4 : 0 < 2 ^ (D - e) := Nat.two_pow_pos _
    rw [← s1] at a d s2
    rcases hoff with h | h
    · omega
    · have : (2 ^ e + 1) * 2 ^ (D - e) ≤ (n + 1) * 2 ^ (D - e) := Nat.mul_le_mul_right _ (by omega)
      rw [Nat.add_mul, Nat.one_mul, ← s1, Nat.add_mul, Nat.one_mul] at this
      omega

/-- The least place of so many in a row is no less than 'first', and such a place lies among the node's bits. -/
structure Seek (b : Nat → Bool) (D : Nat) (count e node first : Nat) : Prop where
  le : e ≤ D
  n1 : 2 ^ e ≤ node
  n2 : node < 2 ^ (e + 1)
  at0 : first = (node - 2 ^ e) * 2 ^ (D - e)
  none : ∀ q, q < first → ¬ Run b q count
  some : ∃ p, first ≤ p ∧ p + count ≤ first + 2 ^ (D - e) ∧ Run b p count

theorem Seek.start {b : Nat → Bool} {D count : Nat} {r : Nat → Rw} (h : Right b D r) (hm : count ≤ (r 1).m) : Seek b D count 0 1 0 := by
  obtain ⟨p, h1, h2, h3⟩ := (h 0 (Nat.zero_le _) 1 (by simp) (by simp)).mrun
  refine ⟨Nat.zero_le _, by simp, by simp, by simp, fun q hq => by omega, p, by omega, ?_, h3.sub (by omega) (by omega)⟩
  simp only [Nat.pow_zero, Nat.sub_self, Nat.zero_mul, Nat.zero_add] at h2 ⊢
  omega

theorem Seek.parts {b : Nat → Bool} {D count e node first : Nat} {r : Nat → Rw} (h : Right b D r) (s : Seek b D count e node first) (he : e < D) :
    Sp b first (2 ^ (D - (e + 1))) (r (2 * node)) ∧ Sp b (first + 2 ^ (D - (e + 1))) (2 ^ (D - (e + 1))) (r (2 * node + 1)) ∧ 2 ^ (D - e) = 2 ^ (D - (e + 1)) + 2 ^ (D - (e + 1)) := by
  have n1 := s.n1
  have n2 := s.n2
  have e2 : 2 ^ (e + 1) = 2 * 2 ^ e := by rw [Nat.pow_succ]; omega
  have e22 : 2 ^ (e + 1 + 1) = 2 * 2 ^ (e + 1) := by rw [Nat.pow_succ]; omega
  have a := h (e + 1) (by omega) (2 * node) (by omega) (by omega)
  have c := h (e + 1) (by omega) (2 * node + 1) (by omega) (by omega)
  unfold Ok at a c
  have e1 : D - e = D - (e + 1) + 1 := by omega
  have e3 : 2 * node - 2 ^ (e + 1) = 2 * (node - 2 ^ e) := by rw [e2]; omega
  have e4 : 2 * node + 1 - 2 ^ (e + 1) = 2 * (node - 2 ^ e) + 1 := by rw [e2]; omega
  rw [e3] at a
  rw [e4] at c
  have hf := s.at0
  rw [e1, Nat.pow_succ] at hf
  rw [e1, Nat.pow_succ]
  generalize node - 2 ^ e = i at a c hf
  generalize 2 ^ (D - (e + 1)) = z at a c hf ⊢
  have e5 : i * (z * 2) = 2 * i * z := by rw [Nat.mul_comm z 2, ← Nat.mul_assoc, Nat.mul_comm i 2]
  have e6 : (2 * i + 1) * z = 2 * i * z + z := by rw [Nat.add_mul, Nat.one_mul]
  rw [e6] at c
  rw [e5] at hf
  rw [← hf] at a c
  exact ⟨a, c, by omega⟩

theorem Seek.left {b : Nat → Bool} {D count e node first : Nat} {r : Nat → Rw} (h : Right b D r) (s : Seek b D count e node first) (he : e < D) (hm : count ≤ (r (2 * node)).m) :
    Seek b D count (e + 1) (2 * node) first := by
  obtain ⟨a, c, z⟩ := s.parts h he
  have n1 := s.n1
  have n2 := s.n2
  have e2 : 2 ^ (e + 1) = 2 * 2 ^ e := by rw [Nat.pow_succ]; omega
  have e22 : 2 ^ (e + 1 + 1) = 2 * 2 ^ (e + 1) := by rw [Nat.pow_succ]; omega
  obtain ⟨p, h1, h2, h3⟩ := a.mrun
  refine ⟨by omega, by omega, by omega, ?_, s.none, p, h1, by omega, h3.sub (by omega) (by omega)⟩
  have hf := s.at0
  have e3 : 2 * node - 2 ^ (e + 1) = 2 * (node - 2 ^ e) := by rw [e2]; omega
  rw [e3, hf, z, Nat.mul_add, Nat.two_mul, Nat.add_mul]

theorem Seek.across {b : Nat → Bool} {D count e node first : Nat} {r : Nat → Rw} (h : Right b D r) (s : Seek b D count e node first) (he : e < D) (hm : (r (2 * node)).m < count)
    (hc : count ≤ (r (2 * node)).k + (r (2 * node + 1)).f) : Run b (first + 2 ^ (D - (e + 1)) - (r (2 * node)).k) count ∧ ∀ q, q < first + 2 ^ (D - (e + 1)) - (r (2 * node)).k → ¬ Run b q count := by
  obtain ⟨a, c, z⟩ := s.parts h he
  have l1 := a.kle
  refine ⟨?_, fun q hq hr => ?_⟩
  · have := a.krun.join (i := (r (2 * node + 1)).f) (by rw [show first + 2 ^ (D - (e + 1)) - (r (2 * node)).k + (r (2 * node)).k = first + 2 ^ (D - (e + 1)) by omega]; exact c.frun)
    exact this.sub (by omega) (by omega)
  · by_cases h1 : q < first
    · exact s.none q h1 hr
    · by_cases h2 : q + count ≤ first + 2 ^ (D - (e + 1))
      · have := a.most q count (by omega) h2 hr; omega
      · have := a.back_most (k := first + 2 ^ (D - (e + 1)) - q) (by omega) (hr.sub (by omega) (by omega)); omega

theorem Seek.right {b : Nat → Bool} {D count e node first : Nat} {r : Nat → Rw} (h : Right b D r) (s : Seek b D count e node first) (he : e < D) (hm : (r (2 * node)).m < count)
    (hc : (r (2 * node)).k + (r (2 * node + 1)).f < count) : Seek b D count (e + 1) (2 * node + 1) (first + 2 ^ (D - (e + 1))) := by
  obtain ⟨a, c, z⟩ := s.parts h he
  have n1 := s.n1
  have n2 := s.n2
  have e2 : 2 ^ (e + 1) = 2 * 2 ^ e := by rw [Nat.pow_succ]; omega
  have e22 : 2 ^ (e + 1 + 1) = 2 * 2 ^ (e + 1) := by rw [Nat.pow_succ]; omega
  have l1 := a.kle
  have l2 := c.fle
  have no : ∀ q, q < first + 2 ^ (D - (e + 1)) → q + count ≤ first + 2 ^ (D - e) → ¬ Run b q count := by
    intro q hq hq2 hr
    by_cases h1 : q < first
    · exact s.none q h1 hr
    · by_cases h2 : q + count ≤ first + 2 ^ (D - (e + 1))
      · have := a.most q count (by omega) h2 hr; omega
      · have x1 := a.back_most (k := first + 2 ^ (D - (e + 1)) - q) (by omega) (hr.sub (by omega) (by omega))
        have x2 := c.front_most (k := q + count - (first + 2 ^ (D - (e + 1)))) (by omega) (hr.sub (by omega) (by omega))
        omega
  have no2 : ∀ q, q < first + 2 ^ (D - (e + 1)) → ¬ Run b q count := by
    intro q hq hr
    obtain ⟨p, h1, h2, h3⟩ := s.some
    have hp : ¬ p < first + 2 ^ (D - (e + 1)) := fun hl => no p hl h2 h3
    exact no q hq (by omega) hr
  obtain ⟨p, h1, h2, h3⟩ := s.some
  refine ⟨by omega, by omega, by omega, ?_, no2, p, ?_, by omega, h3⟩
  · have hf := s.at0
    have e4 : 2 * node + 1 - 2 ^ (e + 1) = 2 * (node - 2 ^ e) + 1 := by rw [e2]; omega
    rw [e4, hf, z, Nat.add_mul, Nat.one_mul, Nat.mul_add, Nat.two_mul, Nat.add_mul]
  · have hp : ¬ p < first + 2 ^ (D - (e + 1)) := fun hl => no2 p hl h3
    omega

theorem Seek.leaf {b : Nat → Bool} {D count node first : Nat} (hc : 1 ≤ count) (s : Seek b D count D node first) : Run b first count ∧ ∀ q, q < first → ¬ Run b q count := by
  obtain ⟨p, h1, h2, h3⟩ := s.some
  rw [Nat.sub_self, Nat.pow_zero] at h2
  have : p = first := by omega
  subst this
  exact ⟨h3, s.none⟩

end Go.Proofs.Ytfoacgdahonapaa.Tree
