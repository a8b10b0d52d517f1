/- 'Alloc' of the program. -/
import Derived.Test.YtfoacgdahonapaaPlace
namespace Go.Proofs.Ytfoacgdahonapaa
open Go.RowKit Abs Tree
set_option linter.unusedVariables false

/-- Numbers below N that are apart are at most N. -/
theorem nodup_lt : ∀ (N : Nat) (l : List Nat), l.Nodup → (∀ x ∈ l, x < N) → l.length ≤ N
  | 0, l, _, h => by
    cases l with
    | nil => simp
    | cons a _ => exact absurd (h a (by simp)) (by omega)
  | N + 1, l, hd, h => by
    have h1 := nodup_lt N (l.filter (fun x => decide (x ≠ N))) (hd.filter _) (fun x hx => by
      obtain ⟨h2, h3⟩ := List.mem_filter.1 hx
      have := h x h2
      simp only [ne_eq, decide_not, Bool.not_eq_eq_eq_not, Bool.not_true, decide_eq_false_iff_not] at h3
      omega)
    have h2 : l.count N ≤ 1 := List.nodup_iff_count.1 hd N
    have h3 : l.length = (l.filter (fun x => decide (x ≠ N))).length + l.count N := by
      clear h1 h2 hd h
      induction l with
      | nil => rfl
      | cons a l ih =>
        by_cases e : a = N
        · subst e; simp at ih ⊢; omega
        · simp [e] at ih ⊢; omega
    omega

/-- What 'room' leaves: the store with the place taken, and no cell there yet. -/
structure Roomed (w w' : World) (sp : Addr) (s : ASt) (L : Lay) (r n : Nat) (L1 : Lay) : Prop where
  sat : SAt w' sp (s.place r n).2 L1
  kept : Kept (fun k => L.T k ≠ none) w w'
  grow : ∀ j, L1.T j ≠ none → L.T j ≠ none ∨ w.heap.size ≤ j
  same : L1.sb = L.sb ∧ L1.mb = L.mb ∧ (L1.reg r).rb = (L.reg r).rb ∧ (L1.reg r).cb = (L.reg r).cb

theorem room_sat {w : World} {sp : Addr} {s : ASt} {L : Lay} (hL : SAt w sp s L) (hG : s.Good) (hW : s.Within 200) (r n : Nat) (hr : r ∈ s.opens) (hn : 1 ≤ n) (hn2 : n ≤ 4097) :
    Calls Try.prog 35 #[.pointer (some ⟨L.mb, 0, none⟩), .pointer (some ⟨(L.reg r).rb, 0, none⟩), .int .i64 (n : Int)] w fun e w' => e = .returned (.int .i64 ((s.place r n).1 : Int)) ∧ ∃ L1, Roomed w w' sp s L r n L1 := by
  have x := hL.regs r hr
  have how := hW.owner
  have nR : ¬ pgF L.mb L.vs (L.reg r).rb := by
    rintro (h | h | h)
    · exact Lay.ne (hL.tR r hr) hL.tM (by simp) h
    · exact Lay.ne (hL.tR r hr) (hL.tN _ h) (by simp) rfl
    · exact Lay.ne (hL.tR r hr) (hL.tP _ h) (by simp) rfl
  have nT : ∀ j, (L.reg r).tv.ownBlock = some j → ¬ pgF L.mb L.vs j ∧ j ≠ (L.reg r).rb := by
    intro j hj
    refine ⟨?_, Lay.ne (hL.tT r hr j hj) (hL.tR r hr) (by simp)⟩
    rintro (h | h | h)
    · exact Lay.ne (hL.tT r hr j hj) hL.tM (by simp) h
    · exact Lay.ne (hL.tT r hr j hj) (hL.tN _ h) (by simp) rfl
    · exact Lay.ne (hL.tT r hr j hj) (hL.tP _ h) (by simp) rfl
  have hts : (L.reg r).ts.length ≤ 100000 := by
    -- the stretches are apart, and none is empty
    have key : ∀ (l : List (Nat × Nat)) (N : Nat), l.Pairwise (fun a b => a.1 + a.2 ≤ b.1 ∨ b.1 + b.2 ≤ a.1) → (∀ t ∈ l, 1 ≤ t.2 ∧ t.1 + t.2 ≤ N) → l.length ≤ N := by
      intro l N hd hpos
      have hnd : (l.map (·.1)).Nodup := by
        rw [List.nodup_iff_pairwise_ne, List.pairwise_map]
        refine hd.imp_of_mem (fun {a b} ha hb h => ?_)
        have := (hpos a ha).1
        have := (hpos b hb).1
        omega
      have := nodup_lt N (l.map (·.1)) hnd (fun y hy => by
        obtain ⟨t, ht, rfl⟩ := List.mem_map.1 hy
        have := hpos t ht
        omega)
      rwa [List.length_map] at this
    have := key (L.reg r).ts s.owner.length x.disj x.pos
    omega
  by_cases hbig : 16 < n
  · have hpl := place_big s r n hbig
    refine (st_room_big hL.pg hbig hn2 (by omega) x.blk x.own hts nR nT).mono ?_
    rintro e w' ⟨p, np', data', cnt', v3, tv', rfl, g⟩
    have hp := (took_is g.took (by omega) r).1
    have hgv : Given s (s.place r n).2 r p ((n + 15) / 16) (L.reg r).nx (L.reg r).lf := by
      rw [hpl, ← hp]
      exact ⟨rfl, rfl, rfl, rfl, rfl, fun _ _ => rfl, fun h => x.curN h, fun p' f h => x.curS p' f h⟩
    obtain ⟨h1, h2, h3⟩ := sat_got hL hG hr (by omega) g hgv
    refine ⟨by rw [hpl, ← hp], _, h1, h2, h3, rfl, rfl, ?_, ?_⟩
    · show Reg.rb (if r = r then _ else _) = _; rw [if_pos rfl]
    · show Reg.cb (if r = r then _ else _) = _; rw [if_pos rfl]
  · by_cases hfit : n ≤ (L.reg r).lf
    · have hcur : ∃ p f, s.cur r = some (p, f) := by
        cases hc : s.cur r with
        | none => have := x.curN hc; omega
        | some pf => exact ⟨pf.1, pf.2, rfl⟩
      obtain ⟨p, f, hc⟩ := hcur
      obtain ⟨h1, h2⟩ := x.curS p f hc
      have hpl := place_fits s r n p f hbig hc (by omega)
      have hpo := (hG.cur r hr p f hc).1
      have hpl2 := (List.getElem?_eq_some_iff.1 hpo).1
      refine (st_room_fits (mb := L.mb) (tv := (L.reg r).tv) (m := .map (some (L.reg r).cb)) (wd := .int .i64 ((wordsIn s r : Nat) : Int)) hfit (by omega) (by omega) x.blk).mono ?_
      rintro e w' ⟨rfl, hb, hk⟩
      have hbb : ∀ {j : Nat} {y : Role}, L.T j = some y → y ≠ .region r → w'.heap[j]? = w.heap[j]? := fun {j y} hj hy => hk.block j (hL.lt j (by rw [hj]; exact fun h => by cases h)) (Lay.ne hj (hL.tR r hr) hy)
      refine ⟨by rw [hpl, h2], ⟨L.sb, L.mb, L.ob, L.vs, L.data, L.cnt, L.n, fun q => if q = r then ⟨(L.reg r).rb, (L.reg r).tv, (L.reg r).cb, (L.reg r).ts, (L.reg r).mn, (L.reg r).nx + n, (L.reg r).lf - n⟩ else L.reg q, L.T⟩, ?_, hk.mono (fun j hj => by rw [hj, hL.tR r hr]; exact fun h => by cases h), fun j hj => .inl hj, rfl, rfl, ?_, ?_⟩
      · rw [hpl]
        refine ⟨hL.sp, (hbb hL.tS (by simp)).trans hL.store, hL.pg.frame (hbb hL.tM (by simp)) (fun j hj => hbb (hL.tP j hj) (by simp)) (fun j hj => hbb (hL.tN j hj) (by simp)), hL.v0, hL.v1, hL.v2, ?_, hL.few, ?_, hL.tS, hL.tM, hL.tO, hL.tP, hL.tN, ?_, ?_, ?_, ?_, hL.vals, hL.zero⟩
        · have e : (fun q : Int => if s.isOpen q then some (Reg.rb (if q.toNat = r then (⟨(L.reg r).rb, (L.reg r).tv, (L.reg r).cb, (L.reg r).ts, (L.reg r).mn, (L.reg r).nx + n, (L.reg r).lf - n⟩ : Reg) else L.reg q.toNat)) else none) = (fun q : Int => if s.isOpen q then some (L.reg q.toNat).rb else none) := by
            funext q
            by_cases h3 : q.toNat = r
            · rw [if_pos h3, h3]
            · rw [if_neg h3]
          show MapF rp nilD w' L.ob L.n (fun q : Int => if s.isOpen q then some (Reg.rb (if q.toNat = r then (⟨(L.reg r).rb, (L.reg r).tv, (L.reg r).cb, (L.reg r).ts, (L.reg r).mn, (L.reg r).nx + n, (L.reg r).lf - n⟩ : Reg) else L.reg q.toNat)) else none)
          rw [e]
          exact hL.opens.frame (hbb hL.tO (by simp))
        · intro q hq
          show RegAt w' (curTo s r p (f + n)) q (if q = r then _ else _)
          by_cases hqr : q = r
          · rw [if_pos hqr]
            subst hqr
            refine ⟨hb, row_frame x.own (fun j hj => hbb (hL.tT q hq j hj) (by simp)), x.cells.frame (hbb (hL.tC q hq) (by simp)), x.few, x.pages, x.disj, x.pos, fun h => ?_, fun p' f' h => ?_⟩
            · simp [curTo] at h
            · simp [curTo] at h
              obtain ⟨rfl, rfl⟩ := h
              simp only
              omega
          · rw [if_neg hqr]
            have y := hL.regs q hq
            have yy := y.frame (w' := w') (hbb (hL.tR q hq) (by simp [hqr])) (hbb (hL.tC q hq) (by simp)) (fun j hj => hbb (hL.tT q hq j hj) (by simp))
            exact ⟨yy.blk, yy.own, yy.cells, yy.few, yy.pages, yy.disj, yy.pos, fun h => yy.curN (by simpa [curTo, hqr] using h), fun p' f' h => yy.curS p' f' (by simpa [curTo, hqr] using h)⟩
        · intro q hq
          show L.T (Reg.rb (if q = r then _ else _)) = _
          by_cases hqr : q = r
          · rw [if_pos hqr, hqr]; exact hL.tR r hr
          · rw [if_neg hqr]; exact hL.tR q hq
        · intro q hq
          show L.T (Reg.cb (if q = r then _ else _)) = _
          by_cases hqr : q = r
          · rw [if_pos hqr, hqr]; exact hL.tC r hr
          · rw [if_neg hqr]; exact hL.tC q hq
        · intro q hq j hj
          have hj2 : (Reg.tv (if q = r then (⟨(L.reg r).rb, (L.reg r).tv, (L.reg r).cb, (L.reg r).ts, (L.reg r).mn, (L.reg r).nx + n, (L.reg r).lf - n⟩ : Reg) else L.reg q)).ownBlock = some j := hj
          by_cases hqr : q = r
          · rw [if_pos hqr] at hj2; rw [hqr]; exact hL.tT r hr j hj2
          · rw [if_neg hqr] at hj2; exact hL.tT q hq j hj2
        · intro j hj
          have := hL.lt j hj
          have := hk.size
          omega
      · show Reg.rb (if r = r then _ else _) = _; rw [if_pos rfl]
      · show Reg.cb (if r = r then _ else _) = _; rw [if_pos rfl]
    · have hc : ∀ p f, s.cur r = some (p, f) → ¬ f + n ≤ 16 := fun p f h => by have := (x.curS p f h).1; omega
      have hpl := place_fresh s r n hbig hc
      refine (st_room_new hL.pg (by omega) (by omega) (by omega) x.blk x.own hts nR nT).mono ?_
      rintro e w' ⟨p, np', data', cnt', v3, tv', rfl, g⟩
      have hp := (took_is g.took (by omega) r).1
      have hgv : Given s (s.place r n).2 r p 1 (16 * p + n) (16 - n) := by
        rw [hpl, ← hp]
        refine ⟨rfl, rfl, rfl, rfl, rfl, fun q hq => ?_, fun h => ?_, fun p' f h => ?_⟩
        · simp [curTo, hq, takenTo]
        · simp [curTo] at h
        · simp [curTo] at h
          obtain ⟨rfl, rfl⟩ := h
          omega
      obtain ⟨h1, h2, h3⟩ := sat_got hL hG hr (by omega) g hgv
      refine ⟨by rw [hpl, ← hp], _, h1, h2, h3, rfl, rfl, ?_, ?_⟩
      · show Reg.rb (if r = r then _ else _) = _; rw [if_pos rfl]
      · show Reg.cb (if r = r then _ else _) = _; rw [if_pos rfl]

set_option maxRecDepth 100000 in
set_option maxHeartbeats 600000 in
theorem sa_unmade {w : World} {sp : Addr} {s : ASt} {F : Nat → Prop} (h : SA w sp s F) (hG : s.Good) (hW : s.Within 200) (r n : Int) (hr : I64 r) (hn : I64 n) (hbad : ¬ s.isOpen r ∨ n < 1 ∨ 4097 < n) :
    Calls Try.prog 15 #[.pointer (some sp), .int .i64 r, .int .i64 n] w fun e w' => e = .returned (.tuple #[.int .i64 0, .int .i64 (if s.isOpen r then 73 else 70)]) ∧ Kept Nil w w' := by
  obtain ⟨L, hL, rfl⟩ := h
  have rg := st_region hL r hr
  by_cases hO : s.isOpen r
  · rw [if_pos hO] at rg
    rw [if_pos hO]
    simp only [ptrOf] at rg
    have RG := Lib.hid rg
    have hb2 : n < 1 ∨ 4097 < n := hbad.resolve_left (fun h => h hO)
    by_cases h1 : n < 1
    · have d1 : decide (n < 1) = true := by simpa using h1
      clear rg hbad hb2 h1 hO hL
      go_enter Try.func15, Try.ntmps15
      go_wp2_with (go_at_call 32; refine RG.out.mono ?_; rintro e w2 ⟨rfl, rfl⟩)
      go_ret2
      exact ⟨rfl, Kept.refl _ _⟩
    · have d1 : decide (n < 1) = false := by simpa using h1
      have d2 : decide (4097 < n) = true := by simp; omega
      clear rg hbad hb2 h1 hO hL
      go_enter Try.func15, Try.ntmps15
      go_wp2_with (go_at_call 32; refine RG.out.mono ?_; rintro e w2 ⟨rfl, rfl⟩)
      go_ret2
      exact ⟨rfl, Kept.refl _ _⟩
  · rw [if_neg hO] at rg
    rw [if_neg hO]
    simp only [ptrOf] at rg
    have RG := Lib.hid rg
    clear rg hbad hO hL
    go_enter Try.func15, Try.ntmps15
    go_wp2_with (go_at_call 32; refine RG.out.mono ?_; rintro e w2 ⟨rfl, rfl⟩)
    go_ret2
    exact ⟨rfl, Kept.refl _ _⟩

end Go.Proofs.Ytfoacgdahonapaa
