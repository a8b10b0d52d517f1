/- 'Close' of the program: the store behind it. -/
import Derived.Test.YtfoacgdahonapaaClose
import Derived.Test.YtfoacgdahonapaaRoomMain
namespace Go.Proofs.Ytfoacgdahonapaa
open Go.RowKit Abs Tree
set_option linter.unusedVariables false

/-- The layout behind a closing. -/
def Lay.closed (L : Lay) (data' : List Int) (vs' : List Value) (cnt' : Nat) : Lay :=
  ⟨L.sb, L.mb, L.ob, vs', data', cnt', L.n, L.reg, fun k => if nb vs' = some k then some .nodes else L.T k⟩

theorem words_split (l : List ACell) (r : Nat) : ((l.filter (·.reg ≠ r)).map (·.ws.length)).sum + ((l.filter (·.reg = r)).map (·.ws.length)).sum = (l.map (·.ws.length)).sum := by
  induction l with
  | nil => rfl
  | cons c l ih =>
    by_cases h : c.reg = r
    · simp [h] at ih ⊢; omega
    · simp [h] at ih ⊢; omega

theorem isOpen_closed (s : ASt) (r : Nat) (q : Int) : (s.closed r).isOpen q ↔ s.isOpen q ∧ q ≠ (r : Int) := by
  unfold ASt.isOpen ASt.closed
  simp only [List.mem_filter, decide_eq_true_eq]
  constructor
  · rintro ⟨h0, h1, h2⟩; exact ⟨⟨h0, h1⟩, fun e => h2 (by omega)⟩
  · rintro ⟨⟨h0, h1⟩, h2⟩; exact ⟨h0, h1, fun e => h2 (by omega)⟩

theorem sat_closed {w W w' : World} {sp : Addr} {s : ASt} {L : Lay} {r : Nat} {vs' : List Value} {cnt' : Nat} (hL : SAt w sp s L) (hG : s.Good) (hr : r ∈ s.opens)
    (hC : CAt w W L.mb L.vs s.owner.length L.data (bits s) (L.reg r).ts (L.reg r).ts.length vs' cnt')
    (gr : (W.setCell ⟨L.mb, 2, none⟩ (.int .i64 ((s.words : Int) - (wordsIn s r : Int)))).drew.grownBy w' (some L.ob))
    (hm : MapF rp nilD w' L.ob L.n (fun j => if j = (r : Int) then none else if s.isOpen j then some (L.reg j.toNat).rb else none)) :
    Now SA w (fun k => L.T k ≠ none) sp (s.closed r) w' := by
  have x := hL.regs r hr
  have nn : ∀ {j : Nat} {y : Role}, L.T j = some y → L.T j ≠ none := fun h => by rw [h]; exact fun h => by cases h
  have epb := hC.pb
  have k1 : Kept (fun j => j = L.mb) W (W.setCell ⟨L.mb, 2, none⟩ (.int .i64 ((s.words : Int) - (wordsIn s r : Int)))).drew := (Kept.setIn (S := (· = L.mb)) (Kept.refl _ W) _ _ rfl _).drew
  have kg := Kept.grown (Kept.refl (fun j => j = L.ob) _) gr (fun j hj => .inl (by simpa using hj.symm))
  have kk : Kept (fun j => pgF L.mb L.vs j ∨ j = L.ob) w w' := ((hC.kept.mono (fun j hj => .inl hj)).trans (k1.mono (fun j hj => .inl (.inl hj)))).trans (kg.mono (fun j hj => .inr hj))
  have kS : Kept (fun k => L.T k ≠ none) w w' := kk.mono (fun j hj => by
    rcases hj with (h | h | h) | h
    · rw [h]; exact nn hL.tM
    · exact nn (hL.tN j h)
    · exact nn (hL.tP j h)
    · rw [h]; exact nn hL.tO)
  have hb : ∀ {j : Nat} {y : Role}, L.T j = some y → y ≠ .memory → y ≠ .nodes → y ≠ .pages → y ≠ .opens → w'.heap[j]? = w.heap[j]? := by
    intro j y hj h1 h2 h3 h4
    refine kk.block j (hL.lt j (nn hj)) ?_
    rintro ((h | h | h) | h)
    · exact Lay.ne hj hL.tM h1 h
    · exact Lay.ne hj (hL.tN j h) h2 rfl
    · exact Lay.ne hj (hL.tP j h) h3 rfl
    · exact Lay.ne hj hL.tO h4 h
  have six := hC.pg.six
  have neOM := Lay.ne hL.tO hL.tM (by simp)
  have nbO : nb vs' ≠ some L.ob := by
    intro e
    rcases hC.new _ e with h1 | h1
    · exact Lay.ne hL.tO (hL.tN _ h1) (by simp) rfl
    · have := hL.lt L.ob (nn hL.tO); omega
  have pbO : pb vs' ≠ some L.ob := by
    intro e
    rw [epb] at e
    exact Lay.ne hL.tO (hL.tP _ e) (by simp) rfl
  have pg2 := (hC.pg.setv 2 (by omega) (.int .i64 ((s.words : Int) - (wordsIn s r : Int))))
  have pg3 := (pg2.kept (S := Nil) (Kept.drew (Kept.refl _ _)) (fun h => h) (fun _ _ h => h) (fun _ _ h => h)).kept kg (Ne.symm neOM)
    (fun j hj => by rw [pb_set (by omega)] at hj; exact fun e => pbO (by rw [hj, e])) (fun j hj => by rw [nb_set (by omega)] at hj; exact fun e => nbO (by rw [hj, e]))
  rw [List.take_length] at pg3
  have hts : ∀ t ∈ (L.reg r).ts, t.1 + t.2 ≤ s.owner.length := fun t ht => (x.pos t ht).2
  obtain ⟨dl, dget⟩ := dAfter_get (L.reg r).ts s.owner.length L.data hL.pg.dlen hts
  have hown : ∀ j : Nat, (s.closed r).owner[j]? = (s.owner[j]?).map (fun o => if o = some r then none else o) := fun j => by simp [ASt.closed]
  have ebits : bAfter (bits s) (L.reg r).ts = bits (s.closed r) := by
    funext j
    rw [Bool.eq_iff_iff, bAfter_get, ← x.pages j]
    unfold bits
    simp only [decide_eq_true_eq]
    rw [hown]
    cases ho : s.owner[j]? with
    | none => simp
    | some o =>
      simp only [Option.map_some, Option.some.injEq]
      by_cases h : o = some r
      · subst h; simp
      · rw [if_neg h]
        constructor
        · rintro (h1 | h1)
          · exact h1
          · exact absurd h1 h
        · intro h1; exact .inl h1
  have elen : (s.closed r).owner.length = s.owner.length := by simp [ASt.closed]
  rw [ebits, ← elen] at pg3
  have hcell : ∀ c, c ∈ (s.closed r).cells ↔ c ∈ s.cells ∧ c.reg ≠ r := fun c => by simp [ASt.closed, List.mem_filter]
  have hop : ∀ q, q ∈ (s.closed r).opens ↔ q ∈ s.opens ∧ q ≠ r := fun q => by simp [ASt.closed, List.mem_filter]
  have cov : ∀ j, (∃ t ∈ (L.reg r).ts, t.1 * 16 ≤ j ∧ j < t.1 * 16 + t.2 * 16) ↔ s.owner[j / 16]? = some (some r) := by
    intro j
    rw [x.pages (j / 16)]
    constructor
    · rintro ⟨t, ht, h1, h2⟩; exact ⟨t, ht, by omega, by omega⟩
    · rintro ⟨t, ht, h1, h2⟩; exact ⟨t, ht, by omega, by omega⟩
  have T1 : ∀ j y, L.T j = some y → (L.closed (dAfter L.data (L.reg r).ts) (vs'.set 2 (.int .i64 ((s.words : Int) - (wordsIn s r : Int)))) cnt').T j = some y := by
    intro j y hj
    show (if nb (vs'.set 2 _) = some j then some Role.nodes else L.T j) = _
    rw [nb_set (by omega)]
    by_cases h1 : nb vs' = some j
    · rw [if_pos h1]
      rcases hC.new j h1 with h2 | h2
      · rw [← hj, hL.tN j h2]
      · have := hL.lt j (nn hj); omega
    · rw [if_neg h1]; exact hj
  have grow : ∀ j, (L.closed (dAfter L.data (L.reg r).ts) (vs'.set 2 (.int .i64 ((s.words : Int) - (wordsIn s r : Int)))) cnt').T j ≠ none → L.T j ≠ none ∨ w.heap.size ≤ j := by
    intro j hj
    have hj2 : (if nb (vs'.set 2 (.int .i64 ((s.words : Int) - (wordsIn s r : Int)))) = some j then some Role.nodes else L.T j) ≠ none := hj
    rw [nb_set (by omega)] at hj2
    by_cases h1 : nb vs' = some j
    · rcases hC.new j h1 with h2 | h2
      · exact .inl (nn (hL.tN j h2))
      · exact .inr h2
    · rw [if_neg h1] at hj2; exact .inl hj2
  refine ⟨_, ⟨L.closed (dAfter L.data (L.reg r).ts) (vs'.set 2 (.int .i64 ((s.words : Int) - (wordsIn s r : Int)))) cnt', ?_, rfl⟩, grow, kS⟩
  refine ⟨hL.sp, (hb hL.tS (by simp) (by simp) (by simp) (by simp)).trans hL.store, pg3, ?_, ?_, ?_, ?_, hL.few, ?_, T1 _ _ hL.tS, T1 _ _ hL.tM, T1 _ _ hL.tO, ?_, ?_, ?_, ?_, ?_, ?_, ?_, ?_⟩
  · show (vs'.set 2 _)[0]? = _
    rw [List.getElem?_set, if_neg (by omega), hC.same 0 (by omega) (by omega)]; exact hL.v0
  · show (vs'.set 2 _)[1]? = _
    rw [List.getElem?_set, if_neg (by omega), hC.same 1 (by omega) (by omega)]; exact hL.v1
  · show (vs'.set 2 _)[2]? = _
    rw [List.getElem?_set, if_pos rfl, if_pos (by omega)]
    have h1 := words_split s.cells r
    have e : ((s.closed r).words : Int) = (s.words : Int) - (wordsIn s r : Int) := by
      have h2 : (s.closed r).words = ((s.cells.filter (·.reg ≠ r)).map (·.ws.length)).sum := rfl
      have h3 : s.words = (s.cells.map (·.ws.length)).sum := rfl
      have h4 : wordsIn s r = ((s.cells.filter (·.reg = r)).map (·.ws.length)).sum := rfl
      omega
    rw [e]
  · have e : (fun q : Int => if (s.closed r).isOpen q then some (L.reg q.toNat).rb else none) = (fun j : Int => if j = (r : Int) then none else if s.isOpen j then some (L.reg j.toNat).rb else none) := by
      funext q
      by_cases h1 : q = (r : Int)
      · rw [if_pos h1, if_neg (fun h => ((isOpen_closed s r q).1 h).2 h1)]
      · rw [if_neg h1]
        by_cases h2 : s.isOpen q
        · rw [if_pos h2, if_pos ((isOpen_closed s r q).2 ⟨h2, h1⟩)]
        · rw [if_neg h2, if_neg (fun h => h2 ((isOpen_closed s r q).1 h).1)]
    show MapF rp nilD w' L.ob L.n (fun q : Int => if (s.closed r).isOpen q then some (L.reg q.toNat).rb else none)
    rw [e]; exact hm
  · intro q hq
    obtain ⟨hq1, hq2⟩ := (hop q).1 hq
    have y := hL.regs q hq1
    have yy := y.frame (w' := w') (hb (hL.tR q hq1) (by simp) (by simp) (by simp) (by simp)) (hb (hL.tC q hq1) (by simp) (by simp) (by simp) (by simp)) (fun j hj => hb (hL.tT q hq1 j hj) (by simp) (by simp) (by simp) (by simp))
    show RegAt w' (s.closed r) q (L.reg q)
    refine ⟨?_, yy.own, ?_, yy.few, fun p => ?_, yy.disj, fun t ht => by rw [elen]; exact yy.pos t ht, yy.curN, yy.curS⟩
    · have e : wordsIn (s.closed r) q = wordsIn s q := by
        unfold wordsIn ASt.closed
        simp only
        rw [List.filter_filter]
        congr 2
        apply List.filter_congr
        intro c _
        by_cases h : c.reg = q
        · simp [h, hq2]
        · simp [h]
      rw [e]; exact yy.blk
    · have e : (fun a : Int => ((s.closed r).cells.find? (·.is q a)).map (·.ws.length)) = (fun a : Int => (s.cells.find? (·.is q a)).map (·.ws.length)) := by
        funext a
        unfold ASt.closed
        simp only
        rw [List.find?_filter]
        congr 2
        funext c
        by_cases h : c.is q a = true
        · have := (is_iff _ _ _).1 h
          have h2 : c.reg ≠ r := by omega
          simp [h, h2]
        · simp [h]
      show MapF _ _ _ _ _ (fun a : Int => ((s.closed r).cells.find? (·.is q a)).map (·.ws.length))
      rw [e]; exact yy.cells
    · rw [hown, ← yy.pages p]
      cases ho : s.owner[p]? with
      | none => simp
      | some o =>
        simp only [Option.map_some, Option.some.injEq]
        by_cases h : o = some r
        · subst h; simp; exact fun e => hq2 e.symm
        · rw [if_neg h]
  · intro j hj
    have hj2 : pb (vs'.set 2 (.int .i64 ((s.words : Int) - (wordsIn s r : Int)))) = some j := hj
    rw [pb_set (by omega), epb] at hj2
    exact T1 _ _ (hL.tP j hj2)
  · intro j hj
    have hj2 : nb (vs'.set 2 (.int .i64 ((s.words : Int) - (wordsIn s r : Int)))) = some j := hj
    exact if_pos hj2
  · intro q hq; exact T1 _ _ (hL.tR q ((hop q).1 hq).1)
  · intro q hq; exact T1 _ _ (hL.tC q ((hop q).1 hq).1)
  · intro q hq j hj; exact T1 _ _ (hL.tT q ((hop q).1 hq).1 j hj)
  · intro j hj
    have hj2 : (if nb (vs'.set 2 (.int .i64 ((s.words : Int) - (wordsIn s r : Int)))) = some j then some Role.nodes else L.T j) ≠ none := hj
    rw [nb_set (by omega)] at hj2
    have sz := kk.size
    by_cases h1 : nb vs' = some j
    · exact pg3.lt.2.2 j (by rw [nb_set (by omega)]; exact h1)
    · rw [if_neg h1] at hj2
      have := hL.lt j hj2; omega
  · intro c hc j z hz
    obtain ⟨hc1, hc2⟩ := (hcell c).1 hc
    have hj := (List.getElem?_eq_some_iff.1 hz).1
    show (dAfter L.data (L.reg r).ts)[c.addr + j]? = _
    rw [(dget _).2 (fun h => by
      have h1 := (cov _).1 h
      rw [hG.paged c hc1 (c.addr + j) (by omega) (by omega)] at h1
      simp only [Option.some.injEq] at h1
      exact hc2 h1)]
    exact hL.vals c hc1 j z hz
  · intro j hj hno
    show (dAfter L.data (L.reg r).ts)[j]? = _
    have hj2 : j < (dAfter L.data (L.reg r).ts).length := hj
    by_cases h : ∃ t ∈ (L.reg r).ts, t.1 * 16 ≤ j ∧ j < t.1 * 16 + t.2 * 16
    · exact (dget j).1 h
    · rw [(dget j).2 h]
      refine hL.zero j (by rw [hL.pg.dlen]; omega) (fun c hc hcv => ?_)
      by_cases h1 : c.reg = r
      · refine h ((cov j).2 ?_)
        rw [← h1]
        exact hG.paged c hc j hcv.1 hcv.2
      · exact hno c ((hcell c).2 ⟨hc, h1⟩) hcv

theorem sum_bound (l : List ACell) (h : ∀ c ∈ l, c.ws.length ≤ 4097) : (l.map (·.ws.length)).sum ≤ 4097 * l.length := by
  induction l with
  | nil => simp
  | cons c l ih =>
    have := ih (fun d hd => h d (List.mem_cons_of_mem _ hd))
    have := h c (List.mem_cons_self ..)
    simp only [List.map_cons, List.sum_cons, List.length_cons]
    omega

theorem sa_closed {w : World} {sp : Addr} {s : ASt} {F : Nat → Prop} (h : SA w sp s F) (hG : s.Good) (hW : s.Within 200) (r : Nat) (hr : r ∈ s.opens) :
    Calls Try.prog 13 #[.pointer (some sp), .int .i64 (r : Int)] w fun e w' => e = .returned (.int .i64 0) ∧ Now SA w F sp (s.closed r) w' := by
  obtain ⟨L, hL, rfl⟩ := h
  have hO : s.isOpen (r : Int) := ⟨by omega, by rw [Int.toNat_natCast]; exact hr⟩
  have hrl := hG.lt r hr
  have hmany := hW.many
  have rg := st_region hL (r : Int) (by unfold I64; omega)
  rw [if_pos hO, Int.toNat_natCast] at rg
  simp only [ptrOf] at rg
  have hsp := hL.sp
  subst hsp
  have x := hL.regs r hr
  have nR : ∀ {j : Nat} {y : Role}, L.T j = some y → y ≠ .memory → y ≠ .nodes → y ≠ .pages → ¬ pgF L.mb L.vs j := by
    intro j y hj h1 h2 h3
    rintro (h | h | h)
    · exact Lay.ne hj hL.tM h1 h
    · exact Lay.ne hj (hL.tN j h) h2 rfl
    · exact Lay.ne hj (hL.tP j h) h3 rfl
  have hwb : s.words ≤ 1000000 := by
    have := sum_bound s.cells hW.wide
    have := hW.cells
    unfold ASt.words
    omega
  have hwi : wordsIn s r ≤ s.words := by
    have h1 := words_split s.cells r
    have h3 : s.words = (s.cells.map (·.ws.length)).sum := rfl
    have h4 : wordsIn s r = ((s.cells.filter (·.reg = r)).map (·.ws.length)).sum := rfl
    omega
  have hlen : (L.reg r).ts.length ≤ 100000 := by
    have hnd : ((L.reg r).ts.map (·.1)).Nodup := by
      rw [List.nodup_iff_pairwise_ne, List.pairwise_map]
      refine x.disj.imp_of_mem (fun {a b} ha hb h => ?_)
      have := (x.pos a ha).1
      have := (x.pos b hb).1
      omega
    have := nodup_lt s.owner.length ((L.reg r).ts.map (·.1)) hnd (fun y hy => by
      obtain ⟨t, ht, rfl⟩ := List.mem_map.1 hy
      have := x.pos t ht
      omega)
    rw [List.length_map] at this
    have := hW.owner
    omega
  refine (close_core (by unfold I64; omega) rg hL.store hL.pg x.blk x.own hlen hL.v1 hL.v2 hwb hwi hL.opens (nR hL.tS (by simp) (by simp) (by simp)) (nR (hL.tR r hr) (by simp) (by simp) (by simp)) (fun j hj => nR (hL.tT r hr j hj) (by simp) (by simp) (by simp)) (nR hL.tO (by simp) (by simp) (by simp)) x.pos x.disj
    (fun t ht j h1 h2 => by
      have := (x.pages j).2 ⟨t, ht, h1, h2⟩
      simp [bits, this])).mono ?_
  rintro e w' ⟨rfl, W, vs', cnt', hC, gr, hm⟩
  exact ⟨rfl, sat_closed hL hG hr hC gr hm⟩

set_option maxRecDepth 100000 in
set_option maxHeartbeats 600000 in
theorem sa_shut {w : World} {sp : Addr} {s : ASt} {F : Nat → Prop} (h : SA w sp s F) (r : Int) (hr : I64 r) (hn : ¬ s.isOpen r) :
    Calls Try.prog 13 #[.pointer (some sp), .int .i64 r] w fun e w' => e = .returned (.int .i64 70) ∧ Kept Nil w w' := by
  obtain ⟨L, hL, rfl⟩ := h
  have rg := st_region hL r hr
  rw [if_neg hn] at rg
  simp only [ptrOf] at rg
  have RG := Lib.hid rg
  clear rg hL hn
  go_enter Try.func13, Try.ntmps13
  go_wp2_with (go_at_call 32; refine RG.out.mono ?_; rintro e w2 ⟨rfl, rfl⟩)
  go_ret
  exact ⟨rfl, Kept.refl _ _⟩

/-- What the law asks of the program's store. -/
theorem laws : StoreLaws SA where
  lt := sa_lt
  frame := sa_frame
  new := sa_new
  opened := sa_opened
  closed := sa_closed
  shut := fun h _ _ r hr hn => sa_shut h r hr hn
  made := sa_made
  unmade := sa_unmade
  got := sa_got
  stored := sa_stored
  words := fun h _ _ => by
    obtain ⟨L, hL, rfl⟩ := h
    exact (sa_words_at hL).mono (fun e w' ⟨h1, h2⟩ => ⟨h1, by rw [h2]; exact Kept.refl _ _⟩)
  pages := fun h _ _ => by
    obtain ⟨L, hL, rfl⟩ := h
    exact (sa_pages_at hL).mono (fun e w' ⟨h1, m, h2⟩ => ⟨h1, by rw [h2]; exact Kept.drewN (Kept.refl _ _) _⟩)
  free := fun h _ _ => by
    obtain ⟨L, hL, rfl⟩ := h
    exact (sa_free_at hL).mono (fun e w' ⟨h1, h2⟩ => ⟨h1, by rw [h2]; exact Kept.refl _ _⟩)

theorem quiet : QuietCounts SA where
  words := fun h _ _ => by
    obtain ⟨L, hL, rfl⟩ := h
    exact (sa_words_at hL).mono (fun e w' ⟨h1, h2⟩ => ⟨h1, 0, h2⟩)
  pages := fun h _ _ => by
    obtain ⟨L, hL, rfl⟩ := h
    exact sa_pages_at hL
  free := fun h _ _ => by
    obtain ⟨L, hL, rfl⟩ := h
    exact (sa_free_at hL).mono (fun e w' ⟨h1, h2⟩ => ⟨h1, 0, h2⟩)

end Go.Proofs.Ytfoacgdahonapaa
