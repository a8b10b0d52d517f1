/- The store behind 'room': pages for a region, in plain words. -/
import Derived.Test.YtfoacgdahonapaaRoomy
import Derived.Test.YtfoacgdahonapaaRefMake
namespace Go.Proofs.Ytfoacgdahonapaa
open Go.RowKit Abs Tree
set_option linter.unusedVariables false

theorem run_waits (s : ASt) (p k : Nat) (hk : 0 < k) : Run (bits s) p k ↔ waits s.owner p k = true := by
  rw [waits_iff _ _ _ hk]
  constructor
  · intro h j hj
    have := h (p + j) (by omega) (by omega)
    simpa [bits] using this
  · intro h j h1 h2
    have := h (j - p) (by omega)
    rw [show p + (j - p) = j by omega] at this
    simpa [bits] using this

theorem took_is {s : ASt} {data : List Int} {k p np' : Nat} {data' : List Int} (h : Took (bits s) s.owner.length data k p np' data') (hk : 0 < k) (r : Nat) :
    p = findRun s.owner k ∧ np' = (setRun s.owner p k r).length ∧ (data' = data ∨ data' = data ++ List.replicate (k * 16) 0) := by
  rcases h with ⟨h1, h2, h3, h4⟩ | ⟨h1, h2, h3, h4⟩
  · have hw := (run_waits s p k hk).1 h1
    have hp : p = findRun s.owner k := by
      rcases findRun_spec s.owner k hk with ⟨g1, g2, g3⟩ | ⟨g1, g2⟩
      · rcases Nat.lt_trichotomy p (findRun s.owner k) with h | h | h
        · rw [g3 p h] at hw; cases hw
        · exact h
        · exact absurd ((run_waits s _ k hk).2 g1) (h2 _ h)
      · rw [g2 p] at hw; cases hw
    have hle : p + k ≤ s.owner.length := by
      have := (waits_iff _ _ _ hk).1 hw (k - 1) (by omega)
      have := (List.getElem?_eq_some_iff.1 this).1
      omega
    refine ⟨hp, ?_, .inl h4⟩
    rw [setRun_length _ _ _ _ (by omega)]; omega
  · have hp : p = findRun s.owner k := by
      rcases findRun_spec s.owner k hk with ⟨g1, _, _⟩ | ⟨g1, _⟩
      · exact absurd ((run_waits s _ k hk).2 g1) (h1 _)
      · rw [g1]; exact h2
    refine ⟨hp, ?_, .inr h4⟩
    rw [setRun_length _ _ _ _ (by omega)]; omega

theorem bits_run (s : ASt) (p k r : Nat) (hp : p ≤ s.owner.length) {t : ASt} (ht : t.owner = setRun s.owner p k r) : setB (bits s) p k false = bits t := by
  funext i
  unfold bits
  rw [ht, setRun_get _ _ _ _ _ hp]
  unfold setB
  by_cases h : p ≤ i ∧ i < p + k
  · rw [if_pos h, if_pos h]; simp
  · rw [if_neg h, if_neg h]

/-- The layout behind 'room'. -/
def Lay.got (L : Lay) (r p k : Nat) (data' : List Int) (cnt' : Nat) (v3 tv' : Value) (nx lf : Nat) : Lay :=
  ⟨L.sb, L.mb, L.ob, (L.vs.set 3 v3).set 5 (.int .i64 (cnt' : Int)), data', cnt', L.n,
    fun q => if q = r then ⟨(L.reg r).rb, tv', (L.reg r).cb, (L.reg r).ts ++ [(p, k)], (L.reg r).mn, nx, lf⟩ else L.reg q,
    fun j => if v3.ownBlock = some j then some .pages else if tv'.ownBlock = some j then some (.taken r) else L.T j⟩

/-- t is s but for pages that a region got, and that region's current page. -/
structure Given (s t : ASt) (r p k nx lf : Nat) : Prop where
  many : t.many = s.many
  opens : t.opens = s.opens
  cells : t.cells = s.cells
  ever : t.ever = s.ever
  owner : t.owner = setRun s.owner p k r
  others : ∀ q, q ≠ r → t.cur q = s.cur q
  curN : t.cur r = none → lf = 0
  curS : ∀ p' f, t.cur r = some (p', f) → lf + f = 16 ∧ nx = 16 * p' + f

theorem sat_got {w w' : World} {sp : Addr} {s t : ASt} {L : Lay} {r k nx lf p np' cnt' : Nat} {data' : List Int} {v3 tv' : Value} (hL : SAt w sp s L) (hG : s.Good) (hr : r ∈ s.opens) (hk : 1 ≤ k)
    (g : Got w w' L.mb L.vs s.owner.length L.data (bits s) k (L.reg r).rb (L.reg r).tv (.map (some (L.reg r).cb)) (.int .i64 ((wordsIn s r : Nat) : Int)) (.int .i64 (nx : Int)) (.int .i64 (lf : Int)) (L.reg r).ts p np' data' cnt' v3 tv')
    (hg : Given s t r p k nx lf) :
    SAt w' sp t (L.got r p k data' cnt' v3 tv' nx lf) ∧ Kept (fun k => L.T k ≠ none) w w' ∧ (∀ j, (L.got r p k data' cnt' v3 tv' nx lf).T j ≠ none → L.T j ≠ none ∨ w.heap.size ≤ j) := by
  obtain ⟨hp, hnp, hdata⟩ := took_is g.took hk r
  have hple : p ≤ s.owner.length := by rw [hp]; exact findRun_le _ _ hk
  have six := hL.pg.six
  have x := hL.regs r hr
  have e3 : pb ((L.vs.set 3 v3).set 5 (.int .i64 (cnt' : Int))) = v3.ownBlock := by
    rw [pb_set (by omega)]; unfold pb; rw [List.getD_eq_getElem?_getD, List.getElem?_set, if_pos rfl, if_pos (by omega)]; rfl
  have e4 : nb ((L.vs.set 3 v3).set 5 (.int .i64 (cnt' : Int))) = nb L.vs := by rw [nb_set (by omega), nb_set (by omega)]
  have nn : ∀ {j : Nat} {x : Role}, L.T j = some x → L.T j ≠ none := fun h => by rw [h]; exact fun h => by cases h
  have T1 : ∀ j x, L.T j = some x → (L.got r p k data' cnt' v3 tv' nx lf).T j = some x := by
    intro j y hj
    have hlt := hL.lt j (nn hj)
    show (if v3.ownBlock = some j then some Role.pages else if tv'.ownBlock = some j then some (.taken r) else L.T j) = _
    by_cases h1 : v3.ownBlock = some j
    · rw [if_pos h1]
      rcases g.new3 j h1 with h2 | h2
      · rw [← hj, hL.tP j h2]
      · omega
    · rw [if_neg h1]
      by_cases h2 : tv'.ownBlock = some j
      · rw [if_pos h2]
        rcases g.newT j h2 with h3 | h3
        · rw [← hj, hL.tT r hr j h3]
        · have := h3.1; omega
      · rw [if_neg h2]; exact hj
  have kept : Kept (fun k => L.T k ≠ none) w w' := g.kept.mono (fun j hj => by
    rcases hj with (h1 | h1 | h1) | h1 | h1
    · exact nn (h1 ▸ hL.tM)
    · exact nn (hL.tN j h1)
    · exact nn (hL.tP j h1)
    · exact nn (h1 ▸ hL.tR r hr)
    · exact nn (hL.tT r hr j h1))
  have hb : ∀ {j : Nat} {y : Role}, L.T j = some y → y ≠ .memory → y ≠ .nodes → y ≠ .pages → y ≠ .region r → y ≠ .taken r → w'.heap[j]? = w.heap[j]? := by
    intro j y hj h1 h2 h3 h4 h5
    refine g.kept.block j (hL.lt j (nn hj)) ?_
    rintro ((h | h | h) | h | h)
    · exact Lay.ne hj hL.tM h1 h
    · exact Lay.ne hj (hL.tN j h) h2 rfl
    · exact Lay.ne hj (hL.tP j h) h3 rfl
    · exact Lay.ne hj (hL.tR r hr) h4 h
    · exact Lay.ne hj (hL.tT r hr j h) h5 rfl
  have hdl : L.data.length = s.owner.length * 16 := hL.pg.dlen
  have grow : ∀ j, (L.got r p k data' cnt' v3 tv' nx lf).T j ≠ none → L.T j ≠ none ∨ w.heap.size ≤ j := by
    intro j hj
    have hj2 : (if v3.ownBlock = some j then some Role.pages else if tv'.ownBlock = some j then some (.taken r) else L.T j) ≠ none := hj
    by_cases h1 : v3.ownBlock = some j
    · rcases g.new3 j h1 with h2 | h2
      · exact .inl (nn (hL.tP j h2))
      · exact .inr h2
    · rw [if_neg h1] at hj2
      by_cases h2 : tv'.ownBlock = some j
      · rcases g.newT j h2 with h3 | h3
        · exact .inl (nn (hL.tT r hr j h3))
        · exact .inr h3.1
      · rw [if_neg h2] at hj2; exact .inl hj2
  have hpg := g.pg
  rw [bits_run s p k r hple hg.owner, hnp, ← hg.owner] at hpg
  have ew : t.words = s.words := by unfold ASt.words; rw [hg.cells]
  have ewi : ∀ q, wordsIn t q = wordsIn s q := fun q => by unfold wordsIn; rw [hg.cells]
  have free : ∀ j, p ≤ j → j < p + k → ∀ q, s.owner[j]? ≠ some (some q) := fun j h1 h2 q => by
    rw [hp] at h1 h2; exact findRun_free _ _ hk j h1 h2 q
  have hget : ∀ j, t.owner[j]? = if p ≤ j ∧ j < p + k then some (some r) else s.owner[j]? := fun j => by rw [hg.owner]; exact setRun_get _ _ _ _ _ hple
  have hlen : t.owner.length = max s.owner.length (p + k) := by rw [hg.owner]; exact setRun_length _ _ _ _ hple
  refine ⟨⟨hL.sp, (hb hL.tS (by simp) (by simp) (by simp) (by simp) (by simp)).trans hL.store, hpg, ?_, ?_, ?_, ?_, ?_, ?_, T1 _ _ hL.tS, T1 _ _ hL.tM, T1 _ _ hL.tO, ?_, ?_, ?_, ?_, ?_, ?_, ?_, ?_⟩, kept, grow⟩
  · show ((L.vs.set 3 v3).set 5 _)[0]? = _
    rw [List.getElem?_set, if_neg (by omega), List.getElem?_set, if_neg (by omega), hg.many]; exact hL.v0
  · show ((L.vs.set 3 v3).set 5 _)[1]? = _
    rw [List.getElem?_set, if_neg (by omega), List.getElem?_set, if_neg (by omega)]; exact hL.v1
  · show ((L.vs.set 3 v3).set 5 _)[2]? = _
    rw [List.getElem?_set, if_neg (by omega), List.getElem?_set, if_neg (by omega), ew]; exact hL.v2
  · have e : (fun q : Int => if t.isOpen q then some ((L.got r p k data' cnt' v3 tv' nx lf).reg q.toNat).rb else none) = (fun q : Int => if s.isOpen q then some (L.reg q.toNat).rb else none) := by
      funext q
      have h1 : t.isOpen q ↔ s.isOpen q := by unfold ASt.isOpen; rw [hg.opens]
      by_cases h2 : s.isOpen q
      · rw [if_pos h2, if_pos (h1.2 h2)]
        show some (Reg.rb (if q.toNat = r then _ else _)) = _
        by_cases h3 : q.toNat = r
        · rw [if_pos h3, h3]
        · rw [if_neg h3]
      · rw [if_neg h2, if_neg (fun h => h2 (h1.1 h))]
    show MapF rp nilD w' L.ob L.n _
    rw [e]
    exact hL.opens.frame (hb hL.tO (by simp) (by simp) (by simp) (by simp) (by simp))
  · show L.n ≤ t.many
    rw [hg.many]; exact hL.few
  · intro q hq
    rw [hg.opens] at hq
    by_cases hqr : q = r
    · subst hqr
      have e : (L.got q p k data' cnt' v3 tv' nx lf).reg q = ⟨(L.reg q).rb, tv', (L.reg q).cb, (L.reg q).ts ++ [(p, k)], (L.reg q).mn, nx, lf⟩ := if_pos rfl
      rw [e]
      refine ⟨by rw [ewi]; exact g.blk, by rw [List.length_append]; exact g.own, ?_, by rw [hg.ever]; exact x.few, ?_, ?_, ?_, hg.curN, hg.curS⟩
      · rw [hg.cells]
        exact x.cells.frame (hb (hL.tC q hq) (by simp) (by simp) (by simp) (by simp) (by simp))
      · intro j
        rw [hget]
        simp only [List.mem_append, List.mem_singleton]
        by_cases h1 : p ≤ j ∧ j < p + k
        · rw [if_pos h1]
          exact ⟨fun _ => ⟨(p, k), .inr rfl, h1⟩, fun _ => rfl⟩
        · rw [if_neg h1, x.pages j]
          constructor
          · rintro ⟨y, hy, h2⟩; exact ⟨y, .inl hy, h2⟩
          · rintro ⟨y, hy | hy, h2⟩
            · exact ⟨y, hy, h2⟩
            · subst hy; exact absurd h2 h1
      · rw [List.pairwise_append]
        refine ⟨x.disj, by simp, fun a ha c hc => ?_⟩
        rw [List.mem_singleton.1 hc]
        have hpos := x.pos a ha
        by_cases h1 : a.1 + a.2 ≤ p
        · exact .inl h1
        · by_cases h2 : p + k ≤ a.1
          · exact .inr h2
          · exfalso
            have h3 := (x.pages (max a.1 p)).2 ⟨a, ha, by omega, by omega⟩
            exact free (max a.1 p) (by omega) (by omega) q h3
      · intro y hy
        rcases List.mem_append.1 hy with h1 | h1
        · have := x.pos y h1; omega
        · rw [List.mem_singleton.1 h1]; simp only; omega
    · have e : (L.got r p k data' cnt' v3 tv' nx lf).reg q = L.reg q := if_neg hqr
      rw [e]
      have y := hL.regs q hq
      have yy := y.frame (w' := w') (hb (hL.tR q hq) (by simp) (by simp) (by simp) (by simp [hqr]) (by simp)) (hb (hL.tC q hq) (by simp) (by simp) (by simp) (by simp) (by simp)) (fun j hj => hb (hL.tT q hq j hj) (by simp) (by simp) (by simp) (by simp) (by simp [hqr]))
      refine ⟨by rw [ewi]; exact yy.blk, yy.own, by rw [hg.cells]; exact yy.cells, by rw [hg.ever]; exact yy.few, fun j => ?_, yy.disj, fun a ha => by have := yy.pos a ha; omega, fun hc => yy.curN (by rw [← hg.others q hqr]; exact hc), fun p' f hc => yy.curS p' f (by rw [← hg.others q hqr]; exact hc)⟩
      rw [hget, ← yy.pages j]
      by_cases h1 : p ≤ j ∧ j < p + k
      · rw [if_pos h1]
        constructor
        · intro h; simp only [Option.some.injEq] at h; exact absurd h.symm hqr
        · intro h; exact absurd h (free j h1.1 h1.2 q)
      · rw [if_neg h1]
  · intro j hj
    have hj2 : pb ((L.vs.set 3 v3).set 5 (.int .i64 (cnt' : Int))) = some j := hj
    rw [e3] at hj2
    exact if_pos hj2
  · intro j hj
    have hj2 : nb ((L.vs.set 3 v3).set 5 (.int .i64 (cnt' : Int))) = some j := hj
    rw [e4] at hj2
    exact T1 _ _ (hL.tN j hj2)
  · intro q hq
    rw [hg.opens] at hq
    show (L.got r p k data' cnt' v3 tv' nx lf).T (Reg.rb (if q = r then _ else _)) = _
    by_cases hqr : q = r
    · rw [if_pos hqr, hqr]; exact T1 _ _ (hL.tR r hr)
    · rw [if_neg hqr]; exact T1 _ _ (hL.tR q hq)
  · intro q hq
    rw [hg.opens] at hq
    show (L.got r p k data' cnt' v3 tv' nx lf).T (Reg.cb (if q = r then _ else _)) = _
    by_cases hqr : q = r
    · rw [if_pos hqr, hqr]; exact T1 _ _ (hL.tC r hr)
    · rw [if_neg hqr]; exact T1 _ _ (hL.tC q hq)
  · intro q hq j hj
    rw [hg.opens] at hq
    have hj2 : (Reg.tv (if q = r then (⟨(L.reg r).rb, tv', (L.reg r).cb, (L.reg r).ts ++ [(p, k)], (L.reg r).mn, nx, lf⟩ : Reg) else L.reg q)).ownBlock = some j := hj
    by_cases hqr : q = r
    · rw [if_pos hqr] at hj2
      subst hqr
      show (if v3.ownBlock = some j then some Role.pages else if tv'.ownBlock = some j then some (.taken q) else L.T j) = _
      have h1 : v3.ownBlock ≠ some j := by
        intro h
        rcases g.newT j hj2 with h3 | h3
        · rcases g.new3 j h with h4 | h4
          · exact Lay.ne (hL.tT q hq j h3) (hL.tP j h4) (by simp) rfl
          · have := hL.lt j (nn (hL.tT q hq j h3)); omega
        · exact h3.2 h
      rw [if_neg h1, if_pos hj2]
    · rw [if_neg hqr] at hj2
      exact T1 _ _ (hL.tT q hq j hj2)
  · intro j hj
    rcases grow j hj with h1 | h1
    · have := hL.lt j h1; have := g.kept.size; omega
    · have hj2 : (if v3.ownBlock = some j then some Role.pages else if tv'.ownBlock = some j then some (.taken r) else L.T j) ≠ none := hj
      by_cases h2 : v3.ownBlock = some j
      · exact g.pg.lt.2.1 j (by rw [e3]; exact h2)
      · rw [if_neg h2] at hj2
        by_cases h3 : tv'.ownBlock = some j
        · exact (g.own.lt j h3).2
        · rw [if_neg h3] at hj2
          have := hL.lt j hj2; have := g.kept.size; omega
  · rw [hg.cells]
    intro c hc j z hz
    have := hL.vals c hc j z hz
    show data'[c.addr + j]? = _
    rcases hdata with h1 | h1
    · rw [h1]; exact this
    · rw [h1, List.getElem?_append_left (List.getElem?_eq_some_iff.1 this).1]; exact this
  · rw [hg.cells]
    intro j hj hno
    show data'[j]? = _
    have hj2 : j < data'.length := hj
    by_cases h2 : j < L.data.length
    · have := hL.zero j h2 hno
      rcases hdata with h1 | h1
      · rw [h1]; exact this
      · rw [h1, List.getElem?_append_left h2]; exact this
    · rcases hdata with h1 | h1
      · rw [h1] at hj2; omega
      · rw [h1] at hj2
        rw [List.length_append, List.length_replicate] at hj2
        rw [h1, List.getElem?_append_right (by omega), List.getElem?_replicate, if_pos (by omega)]

end Go.Proofs.Ytfoacgdahonapaa
