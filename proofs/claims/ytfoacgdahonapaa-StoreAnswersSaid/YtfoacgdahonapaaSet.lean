/- 'Set' of the program. -/
import Derived.Test.YtfoacgdahonapaaGetSet
import Derived.Test.YtfoacgdahonapaaRef
namespace Go.Proofs.Ytfoacgdahonapaa
open Go.RowKit Abs Tree
set_option linter.unusedVariables false

theorem vals_stored {w : World} {sp : Addr} {s : ASt} {L : Lay} (h : SAt w sp s L) (g : s.Good) {c : ACell} (hc : c ∈ s.cells) {k : Nat} (hk : k < c.ws.length) (v : Int) :
    (∀ d ∈ s.cells.map (wr c.reg c.addr k v), ∀ (j : Nat) (z : Int), d.ws[j]? = some z → (L.data.set (c.addr + k) v)[d.addr + j]? = some z) ∧
    (∀ j, j < (L.data.set (c.addr + k) v).length → (∀ d ∈ s.cells.map (wr c.reg c.addr k v), ¬ (d.addr ≤ j ∧ j < d.addr + d.ws.length)) → (L.data.set (c.addr + k) v)[j]? = some 0) := by
  have hlk := wr_like c.reg c.addr k v
  have hlen := (List.getElem?_eq_some_iff.1 (h.vals c hc k c.ws[k] (List.getElem?_eq_getElem hk))).1
  constructor
  · intro d hd j z hz
    obtain ⟨d0, hd0, rfl⟩ := List.mem_map.1 hd
    rw [List.getElem?_set, (hlk d0).2.1]
    have hj : j < d0.ws.length := by
      have := (List.getElem?_eq_some_iff.1 hz).1
      rw [(hlk d0).2.2] at this; exact this
    by_cases he : c.addr + k = d0.addr + j
    · obtain ⟨w1, w2, w3⟩ := word_of g hc hd0 hk hj he
      rw [if_pos he, if_pos hlen]
      have hw : wr c.reg c.addr k v d0 = d0.put k v := by
        unfold wr; rw [if_pos ((is_iff _ _ _).2 ⟨by rw [w1], by rw [w2]⟩)]
      rw [hw] at hz
      simp only [ACell.put] at hz
      rw [List.getElem?_set, if_pos w3, if_pos (by omega)] at hz
      exact hz
    · rw [if_neg he]
      by_cases hdis : d0.is c.reg c.addr = true
      · have hw : wr c.reg c.addr k v d0 = d0.put k v := by unfold wr; rw [if_pos hdis]
        have hia := (is_iff _ _ _).1 hdis
        rw [hw] at hz
        simp only [ACell.put] at hz
        rw [List.getElem?_set, if_neg (by omega)] at hz
        exact h.vals d0 hd0 j z hz
      · have hw : wr c.reg c.addr k v d0 = d0 := by unfold wr; rw [if_neg hdis]
        rw [hw] at hz
        exact h.vals d0 hd0 j z hz
  · intro j hj hno
    rw [List.length_set] at hj
    have hne : c.addr + k ≠ j := by
      intro e
      refine hno _ (List.mem_map.2 ⟨c, hc, rfl⟩) ?_
      rw [(hlk c).2.1, (hlk c).2.2]
      omega
    rw [List.getElem?_set, if_neg hne]
    refine h.zero j hj (fun d hd hcov => hno _ (List.mem_map.2 ⟨d, hd, rfl⟩) ?_)
    rw [(hlk d).2.1, (hlk d).2.2]
    exact hcov

theorem find_map_like {l : List ACell} {g : ACell → ACell} (hg : ∀ c, (g c).like c) (r a : Int) : ((l.map g).find? (·.is r a)).map (·.ws.length) = (l.find? (·.is r a)).map (·.ws.length) := by
  rw [List.find?_map]
  have e : ((fun c : ACell => c.is r a) ∘ g) = fun c => c.is r a := by
    funext c
    have := hg c
    simp only [Function.comp, ACell.is, this.1, this.2.1]
  rw [e, Option.map_map]
  congr 1
  funext c
  exact (hg c).2.2

theorem RegAt.like {w w' : World} {s : ASt} {r : Nat} {x : Reg} (h : RegAt w s r x) {g : ACell → ACell} (hg : ∀ c, (g c).like c) (hb : ∀ k, (k = x.rb ∨ k = x.cb ∨ x.tv.ownBlock = some k) → w'.heap[k]? = w.heap[k]?) : RegAt w' { s with cells := s.cells.map g } r x := by
  have xx := h.frame (w' := w') (hb _ (.inl rfl)) (hb _ (.inr (.inl rfl))) (fun k hk => hb k (.inr (.inr hk)))
  have ew : wordsIn { s with cells := s.cells.map g } r = wordsIn s r := by
    unfold wordsIn
    simp only [List.filter_map, List.map_map]
    have e1 : ((fun c : ACell => decide (c.reg = r)) ∘ g) = fun c => decide (c.reg = r) := by funext c; simp only [Function.comp, (hg c).1]
    have e2 : ((fun c : ACell => c.ws.length) ∘ g) = fun c => c.ws.length := by funext c; exact (hg c).2.2
    rw [e1, e2]
  refine ⟨by rw [ew]; exact xx.blk, xx.own, ?_, xx.few, xx.pages, xx.disj, xx.pos, xx.curN, xx.curS⟩
  have e : (fun a : Int => ((s.cells.map g).find? (·.is r a)).map (·.ws.length)) = fun a : Int => (s.cells.find? (·.is r a)).map (·.ws.length) := by
    funext a; exact find_map_like hg r a
  show MapF _ _ _ _ _ (fun a : Int => ((s.cells.map g).find? (·.is r a)).map (·.ws.length))
  rw [e]; exact xx.cells

/-- The store behind a 'Set'. -/
theorem sat_stored {w : World} {sp : Addr} {s : ASt} {L : Lay} (hL : SAt w sp s L) (hG : s.Good) {c : ACell} (hc : c ∈ s.cells) {k g : Nat} (hk : k < c.ws.length) (v : Int) (hpb : pb L.vs = some g) :
    SAt (w.setCell ⟨g, c.addr + k, none⟩ (.int .i64 v)) sp { s with cells := s.cells.map (wr c.reg c.addr k v) } { L with data := L.data.set (c.addr + k) v } := by
  have hlk := wr_like c.reg c.addr k v
  have hv := vals_stored hL hG hc hk v
  have ks : Kept (· = g) w (w.setCell ⟨g, c.addr + k, none⟩ (.int .i64 v)) := Kept.setIn (S := (· = g)) (Kept.refl _ _) _ _ rfl _
  have tg := hL.tP g hpb
  have sm : ∀ {j : Nat} {x : Role}, L.T j = some x → x ≠ .pages → j ≠ g := fun h hx => Lay.ne h tg hx
  have hb : ∀ {j : Nat} {x : Role}, L.T j = some x → x ≠ .pages → (w.setCell ⟨g, c.addr + k, none⟩ (.int .i64 v)).heap[j]? = w.heap[j]? := fun h hx => ks.block _ (hL.lt _ (by rw [h]; exact fun h => by cases h)) (sm h hx)
  have ew : ({ s with cells := s.cells.map (wr c.reg c.addr k v) } : ASt).words = s.words := by
    unfold ASt.words
    simp only [List.map_map]
    have e2 : ((fun c : ACell => c.ws.length) ∘ (wr c.reg c.addr k v)) = fun c => c.ws.length := by funext c; exact (hlk c).2.2
    rw [e2]
  refine ⟨hL.sp, (hb hL.tS (by simp)).trans hL.store, ?_, hL.v0, hL.v1, by rw [ew]; exact hL.v2, hL.opens.frame (hb hL.tO (by simp)), hL.few, fun r hr => (hL.regs r hr).like hlk ?_, hL.tS, hL.tM, hL.tO, hL.tP, hL.tN, hL.tR, hL.tC, hL.tT, ?_, hv.1, hv.2⟩
  · have h := hL.pg
    refine ⟨h.tr.kept ks (sm hL.tM (by simp)) (fun j hj => sm (hL.tN j hj) (by simp)), h.six, ?_, h.at5, h.pne, h.apart, h.few, h.sum, h.out⟩
    obtain ⟨a, cap, h3, hg3⟩ := h.at3
    have own := h.own
    unfold pb at hpb
    rw [hg3] at own hpb ⊢
    cases a with
    | none => simp [Value.ownBlock] at hpb
    | some ad =>
      simp only [Value.ownBlock, Option.some.injEq] at hpb
      have h1 : ad = ⟨g, 0, none⟩ := by
        rcases own.2 with ⟨h2, _⟩ | ⟨g', cap', cur, h2, _⟩
        · cases h2
        · simp only [Value.slice.injEq, Option.some.injEq] at h2
          rw [h2.1] at hpb ⊢
          rw [← hpb]
      subst h1
      have hst := (own.stored (c.addr + k) (.int .i64 v)).1
      have e : (ints L.data).set (c.addr + k) (.int .i64 v) = ints (L.data.set (c.addr + k) v) := by unfold ints; rw [List.map_set]
      rw [e] at hst
      exact hst
  · rintro j (rfl | rfl | hj)
    · exact hb (hL.tR r hr) (by simp)
    · exact hb (hL.tC r hr) (by simp)
    · exact hb (hL.tT r hr j hj) (by simp)
  · intro j hj
    have := hL.lt j hj
    have := ks.size
    omega

set_option maxRecDepth 100000 in
set_option maxHeartbeats 1600000 in
theorem sa_stored {w : World} {sp : Addr} {s : ASt} {F : Nat → Prop} (h : SA w sp s F) (hG : s.Good) (hW : s.Within 200) (r a f v : Int) (hr : I64 r) (ha : I64 a) (hf : I64 f) (hv : I64 v) :
    Calls Try.prog 19 #[.pointer (some sp), .int .i64 r, .int .i64 a, .int .i64 f, .int .i64 v] w fun e w' => e = .returned (.int .i64 (s.asked r a f)) ∧ Now SA w F sp (s.stored r a f v) w' := by
  have hSA := h
  obtain ⟨L, hL, rfl⟩ := h
  have fd := st_field hL hG hW r a f hr ha hf
  by_cases h0 : s.asked r a f = 0
  · rw [h0] at fd ⊢
    have hvv : ∀ u, FieldIs s L r a f u → ∃ (g ad n : Nat) (z : Value), 1 ≤ n ∧ u = .slice (some ⟨g, ad, none⟩) n n ∧ w.cell? ⟨g, ad, none⟩ = some z ∧ w.frozen? ⟨g, ad, none⟩ = false ∧ g < w.heap.size ∧
        Now SA w (fun k => L.T k ≠ none) sp (s.stored r a f v) (w.setCell ⟨g, ad, none⟩ (.int .i64 v)) := by
      rintro u (⟨h1, _⟩ | ⟨_, g, n, c, k, hfd, hcm, hca, hk, hkl, hlt, hpb, hn, rfl⟩)
      · exact absurd h0 h1
      · have his := List.find?_some hfd
        simp only [ACell.is, Bool.and_eq_true, beq_iff_eq] at his
        have hst := sat_stored hL hG hcm hkl v hpb
        have e : s.stored r a f v = { s with cells := s.cells.map (wr c.reg c.addr k v) } := by
          rw [stored_cells v h0, ← hk, Int.toNat_natCast, ← his.1, ← his.2]
        have hnow : Now SA w (fun k => L.T k ≠ none) sp (s.stored r a f v) (w.setCell ⟨g, c.addr + k, none⟩ (.int .i64 v)) := by
          rw [e]
          refine ⟨fun k => L.T k ≠ none, ⟨_, hst, rfl⟩, fun k hk => .inl hk, ?_⟩
          exact Kept.setIn (S := fun k => L.T k ≠ none) (Kept.refl _ _) _ _ (by rw [hL.tP g hpb]; exact fun h => by cases h) _
        obtain ⟨pa, cap, h3, hg3⟩ := hL.pg.at3
        have own := hL.pg.own
        have hgl := hL.pg.lt.2.1 g hpb
        unfold pb at hpb
        rw [hg3] at own hpb
        obtain ⟨g', cap', hq, _, _, _, hc'⟩ := row_some own (by omega)
        simp only [Value.slice.injEq, true_and] at hq
        obtain ⟨rfl, rfl⟩ := hq
        simp only [Value.ownBlock, Option.some.injEq] at hpb
        subst hpb
        have hlen : c.addr + k < (ints L.data).length := by rw [own.1]; exact hlt
        exact ⟨g', c.addr + k, n, _, hn, rfl, by rw [hc' _ hlt]; exact List.getElem?_eq_getElem hlen, own.frozenAt _, hgl, hnow⟩
    obtain ⟨S2, hS2⟩ : ∃ S2, S2 = s.stored r a f v := ⟨_, rfl⟩
    rw [← hS2] at hvv ⊢
    have HV := Lib.hid hvv
    have FD := Lib.hid fd
    clear fd hvv h0 hS2 hL hSA
    go_enter Try.func19, Try.ntmps19
    go_upto_region 4 with (go_at_call 37; refine FD.out.mono ?_; rintro e w2 ⟨u, rfl, hF, rfl⟩)
    obtain ⟨g, ad, n, z, hn, rfl, hc, hfz, hgl, hnow⟩ := HV.out u hF
    have HN := Lib.hid hnow
    clear HV FD hF hnow
    go_wp2
    go_ret
    exact ⟨rfl, HN.out⟩
  · have hst : s.stored r a f v = s := by unfold ASt.stored; rw [if_neg h0]
    rw [hst]
    obtain ⟨ev, hev⟩ : ∃ ev, ev = s.asked r a f := ⟨_, rfl⟩
    rw [← hev] at fd h0 ⊢
    have d1 : (ev == 0) = false := by simpa using h0
    have FD := Lib.hid fd
    have HSA := Lib.hid hSA
    clear fd h0 hst hev hL hSA
    go_enter Try.func19, Try.ntmps19
    go_wp2_with (go_at_call 37; refine FD.out.mono ?_; rintro e w2 ⟨u, rfl, hF, rfl⟩)
    go_ret
    exact ⟨rfl, _, HSA.out, fun k hk => .inl hk, Kept.refl _ _⟩

end Go.Proofs.Ytfoacgdahonapaa
