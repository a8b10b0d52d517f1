/- 'Alloc' of the program makes a cell. -/
import Derived.Test.YtfoacgdahonapaaAlloc
namespace Go.Proofs.Ytfoacgdahonapaa
open Go.RowKit Abs Tree
set_option linter.unusedVariables false

/-- The layout behind a cell's making. -/
def Lay.made (L : Lay) (r : Nat) (wd : Int) : Lay :=
  ⟨L.sb, L.mb, L.ob, L.vs.set 2 (.int .i64 wd), L.data, L.cnt, L.n, fun q => if q = r then ⟨(L.reg r).rb, (L.reg r).tv, (L.reg r).cb, (L.reg r).ts, (L.reg r).mn + 1, (L.reg r).nx, (L.reg r).lf⟩ else L.reg q, L.T⟩

theorem sat_made {w2 w3 : World} {sp : Addr} {s : ASt} {L : Lay} {r n : Nat} (hG : s.Good) (hr : r ∈ s.opens) (hn : 1 ≤ n) (hL : SAt w2 sp (s.place r n).2 L)
    (hm : MapF (plainElem Try.prog 3) zeroD w3 (L.reg r).cb ((L.reg r).mn + 1) (fun j => if j = ((s.place r n).1 : Int) then some n else ((s.place r n).2.cells.find? (·.is r j)).map (·.ws.length)))
    (gr : w2.grownBy w3 (some (L.reg r).cb)) :
    SAt ((w3.setCell ⟨(L.reg r).rb, 2, none⟩ (.int .i64 ((wordsIn s r : Int) + n))).setCell ⟨L.mb, 2, none⟩ (.int .i64 ((s.words : Int) + n))) sp (s.made r n) (L.made r ((s.words : Int) + n)) ∧
    Kept (fun k => L.T k ≠ none) w2 ((w3.setCell ⟨(L.reg r).rb, 2, none⟩ (.int .i64 ((wordsIn s r : Int) + n))).setCell ⟨L.mb, 2, none⟩ (.int .i64 ((s.words : Int) + n))) := by
  have hP := placed hG hr hn
  have hr1 : r ∈ (s.place r n).2.opens := by rw [hP.opens]; exact hr
  obtain ⟨ad, hadd⟩ : ∃ ad, ad = (s.place r n).1 := ⟨_, rfl⟩
  obtain ⟨t, ht⟩ : ∃ t, t = (s.place r n).2 := ⟨_, rfl⟩
  have hmade : s.made r n = { t with cells := s.cells ++ [⟨r, ad, List.replicate n 0⟩], ever := s.ever + 1 } := by rw [ht, hadd]; rfl
  have hever : t.ever = s.ever := by rw [ht]; exact place_ever s r n
  rw [hmade]
  rw [← hadd] at hm hP
  rw [← ht] at hL hm hP hr1
  have tc := hP.cells
  have nn : ∀ {j : Nat} {x : Role}, L.T j = some x → L.T j ≠ none := fun h => by rw [h]; exact fun h => by cases h
  have kg : Kept (fun j => j = (L.reg r).cb) w2 w3 := Kept.grown (Kept.refl _ _) gr (fun j hj => .inl (by simpa using hj.symm))
  have k2 : Kept (fun j => j = (L.reg r).rb) w3 (w3.setCell ⟨(L.reg r).rb, 2, none⟩ (.int .i64 ((wordsIn s r : Int) + n))) := Kept.setIn (S := (· = (L.reg r).rb)) (Kept.refl _ _) _ _ rfl _
  have k3 : Kept (fun j => j = L.mb) (w3.setCell ⟨(L.reg r).rb, 2, none⟩ (.int .i64 ((wordsIn s r : Int) + n))) ((w3.setCell ⟨(L.reg r).rb, 2, none⟩ (.int .i64 ((wordsIn s r : Int) + n))).setCell ⟨L.mb, 2, none⟩ (.int .i64 ((s.words : Int) + n))) := Kept.setIn (S := (· = L.mb)) (Kept.refl _ _) _ _ rfl _
  have kk : Kept (fun j => j = (L.reg r).cb ∨ j = (L.reg r).rb ∨ j = L.mb) w2 ((w3.setCell ⟨(L.reg r).rb, 2, none⟩ (.int .i64 ((wordsIn s r : Int) + n))).setCell ⟨L.mb, 2, none⟩ (.int .i64 ((s.words : Int) + n))) :=
    ((kg.mono (fun j hj => .inl hj)).trans (k2.mono (fun j hj => .inr (.inl hj)))).trans (k3.mono (fun j hj => .inr (.inr hj)))
  have tR := hL.tR r hr1
  have tC := hL.tC r hr1
  have hb : ∀ {j : Nat} {y : Role}, L.T j = some y → y ≠ .memory → y ≠ .region r → y ≠ .cells r → ((w3.setCell ⟨(L.reg r).rb, 2, none⟩ (.int .i64 ((wordsIn s r : Int) + n))).setCell ⟨L.mb, 2, none⟩ (.int .i64 ((s.words : Int) + n))).heap[j]? = w2.heap[j]? := by
    intro j y hj h1 h2 h3
    refine kk.block j (hL.lt j (nn hj)) ?_
    rintro (h | h | h)
    · exact Lay.ne hj tC h3 h
    · exact Lay.ne hj tR h2 h
    · exact Lay.ne hj hL.tM h1 h
  have x := hL.regs r hr1
  have ewt : t.words = s.words := by unfold ASt.words; rw [tc]
  have ewi : ∀ q, wordsIn t q = wordsIn s q := fun q => by unfold wordsIn; rw [tc]
  have pg2 : Pg (w3.setCell ⟨(L.reg r).rb, 2, none⟩ (.int .i64 ((wordsIn s r : Int) + n))) L.mb L.vs t.owner.length L.data (bits t) L.cnt := by
    refine (hL.pg.kept kg (Lay.ne hL.tM tC (by simp)) (fun j hj => Lay.ne (hL.tP j hj) tC (by simp)) (fun j hj => Lay.ne (hL.tN j hj) tC (by simp))).kept k2 (Lay.ne hL.tM tR (by simp)) (fun j hj => Lay.ne (hL.tP j hj) tR (by simp)) (fun j hj => Lay.ne (hL.tN j hj) tR (by simp))
  have six := hL.pg.six
  have far : ∀ c ∈ s.cells, c.addr + c.ws.length ≤ ad ∨ ad + n ≤ c.addr := hP.far
  have hdl : L.data.length = t.owner.length * 16 := hL.pg.dlen
  have inside : ∀ j, ad ≤ j → j < ad + n → j < L.data.length := by
    intro j h1 h2
    have := (List.getElem?_eq_some_iff.1 (hP.mine j h1 h2)).1
    omega
  refine ⟨⟨hL.sp, (hb hL.tS (by simp) (by simp) (by simp)).trans hL.store, pg2.setv 2 (by omega) _, ?_, ?_, ?_, ?_, hL.few, ?_, hL.tS, hL.tM, hL.tO, ?_, ?_, ?_, ?_, ?_, ?_, ?_, ?_⟩, kk.mono (fun j hj => by
    rcases hj with h | h | h
    · rw [h]; exact nn tC
    · rw [h]; exact nn tR
    · rw [h]; exact nn hL.tM)⟩
  · show (L.vs.set 2 _)[0]? = _
    rw [List.getElem?_set, if_neg (by omega)]; exact hL.v0
  · show (L.vs.set 2 _)[1]? = _
    rw [List.getElem?_set, if_neg (by omega)]; exact hL.v1
  · show (L.vs.set 2 _)[2]? = _
    rw [List.getElem?_set, if_pos rfl, if_pos (by omega)]
    have e : (({ t with cells := s.cells ++ [⟨r, ad, List.replicate n 0⟩], ever := s.ever + 1 } : ASt).words : Int) = (s.words : Int) + n := by
      unfold ASt.words
      simp
    rw [e]
  · have e : (fun q : Int => if (({ t with cells := s.cells ++ [⟨r, ad, List.replicate n 0⟩], ever := s.ever + 1 } : ASt)).isOpen q then some ((L.made r ((s.words : Int) + n)).reg q.toNat).rb else none) = (fun q : Int => if t.isOpen q then some (L.reg q.toNat).rb else none) := by
      funext q
      have h1 : (({ t with cells := s.cells ++ [⟨r, ad, List.replicate n 0⟩], ever := s.ever + 1 } : ASt)).isOpen q ↔ t.isOpen q := Iff.rfl
      by_cases h2 : t.isOpen q
      · rw [if_pos h2, if_pos (h1.2 h2)]
        show some (Reg.rb (if q.toNat = r then _ else _)) = _
        by_cases h3 : q.toNat = r
        · rw [if_pos h3, h3]
        · rw [if_neg h3]
      · rw [if_neg h2, if_neg (fun h => h2 (h1.1 h))]
    show MapF rp nilD _ L.ob L.n _
    rw [e]
    exact hL.opens.frame (hb hL.tO (by simp) (by simp) (by simp))
  · intro q hq
    have hq2 : q ∈ t.opens := hq
    show RegAt _ _ q (if q = r then _ else _)
    by_cases hqr : q = r
    · rw [if_pos hqr]
      subst hqr
      have bR : Blk ((w3.setCell ⟨(L.reg q).rb, 2, none⟩ (.int .i64 ((wordsIn s q : Int) + n))).setCell ⟨L.mb, 2, none⟩ (.int .i64 ((s.words : Int) + n))) (L.reg q).rb [(L.reg q).tv, .map (some (L.reg q).cb), .int .i64 ((wordsIn s q : Int) + n), .int .i64 ((L.reg q).nx : Int), .int .i64 ((L.reg q).lf : Int)] 68 :=
        Blk.keep k3 ((Blk.keep kg x.blk (Lay.ne tR tC (by simp))).set 2 _) (Lay.ne tR hL.tM (by simp))
      refine ⟨?_, row_frame x.own (fun j hj => hb (hL.tT q hq2 j hj) (by simp) (by simp) (by simp)), ?_, ?_, x.pages, x.disj, x.pos, x.curN, x.curS⟩
      · have e : ((wordsIn ({ t with cells := s.cells ++ [⟨q, ad, List.replicate n 0⟩], ever := s.ever + 1 } : ASt) q : Nat) : Int) = (wordsIn s q : Int) + n := by
          unfold wordsIn
          simp
        rw [e]; exact bR
      · have e : (fun a : Int => ((s.cells ++ [(⟨q, ad, List.replicate n 0⟩ : ACell)]).find? (·.is q a)).map (·.ws.length)) = (fun j : Int => if j = (ad : Int) then some n else (t.cells.find? (·.is q j)).map (·.ws.length)) := by
          funext a
          rw [tc, List.find?_append]
          by_cases ha : a = (ad : Int)
          · rw [if_pos ha, List.find?_eq_none.2 (fun c hc => by
              simp only [ACell.is, Bool.and_eq_true, beq_iff_eq, not_and]
              intro _ e2
              have h1 := far c hc
              have h2 := hG.pos c hc
              omega)]
            simp [ACell.is, ha]
          · rw [if_neg ha]
            have h1 : List.find? (fun x => x.is q a) [(⟨q, ad, List.replicate n 0⟩ : ACell)] = none := by
              rw [List.find?_eq_none]
              intro c hc
              rw [List.mem_singleton.1 hc]
              simp only [ACell.is, Bool.and_eq_true, beq_iff_eq, not_and]
              intro _ e2; exact ha e2.symm
            rw [h1, Option.or_none]
        show MapF _ _ _ _ _ (fun a : Int => ((s.cells ++ [(⟨q, ad, List.replicate n 0⟩ : ACell)]).find? (·.is q a)).map (·.ws.length))
        rw [e]
        refine hm.frame ?_
        have l1 := hL.lt _ (nn tC)
        have sz := kg.size
        rw [k3.block _ (by have := k2.size; omega) (Lay.ne tC hL.tM (by simp)), k2.block _ (by omega) (Lay.ne tC tR (by simp))]
      · show (L.reg q).mn + 1 ≤ s.ever + 1
        have := x.few; omega
    · rw [if_neg hqr]
      have y := hL.regs q hq2
      have yy := y.frame (w' := ((w3.setCell ⟨(L.reg r).rb, 2, none⟩ (.int .i64 ((wordsIn s r : Int) + n))).setCell ⟨L.mb, 2, none⟩ (.int .i64 ((s.words : Int) + n)))) (hb (hL.tR q hq2) (by simp) (by simp [hqr]) (by simp)) (hb (hL.tC q hq2) (by simp) (by simp) (by simp [hqr])) (fun j hj => hb (hL.tT q hq2 j hj) (by simp) (by simp) (by simp))
      refine ⟨?_, yy.own, ?_, ?_, yy.pages, yy.disj, yy.pos, yy.curN, yy.curS⟩
      · have e : wordsIn ({ t with cells := s.cells ++ [⟨r, ad, List.replicate n 0⟩], ever := s.ever + 1 } : ASt) q = wordsIn t q := by
          unfold wordsIn
          rw [tc]
          rw [List.filter_append]
          have h1 : List.filter (fun c : ACell => decide (c.reg = q)) [(⟨r, ad, List.replicate n 0⟩ : ACell)] = [] := by
            rw [List.filter_eq_nil_iff]
            intro c hc
            rw [List.mem_singleton.1 hc]
            simp only [decide_eq_true_eq]
            exact fun e => hqr e.symm
          rw [h1, List.append_nil]
        rw [e]; exact yy.blk
      · have e : (fun a : Int => ((s.cells ++ [(⟨r, ad, List.replicate n 0⟩ : ACell)]).find? (·.is q a)).map (·.ws.length)) = (fun a : Int => (t.cells.find? (·.is q a)).map (·.ws.length)) := by
          funext a
          rw [tc, List.find?_append]
          have h1 : List.find? (fun x => x.is q a) [(⟨r, ad, List.replicate n 0⟩ : ACell)] = none := by
            rw [List.find?_eq_none]
            intro c hc
            rw [List.mem_singleton.1 hc]
            simp only [ACell.is, Bool.and_eq_true, beq_iff_eq, not_and]
            intro e2; exact absurd (show r = q by omega) (fun e => hqr e.symm)
          rw [h1, Option.or_none]
        show MapF _ _ _ _ _ (fun a : Int => ((s.cells ++ [(⟨r, ad, List.replicate n 0⟩ : ACell)]).find? (·.is q a)).map (·.ws.length))
        rw [e]; exact yy.cells
      · show (L.reg q).mn ≤ s.ever + 1
        have := yy.few; omega
  · intro j hj
    have hj2 : pb (L.vs.set 2 (.int .i64 ((s.words : Int) + n))) = some j := hj
    rw [pb_set (by omega)] at hj2
    exact hL.tP j hj2
  · intro j hj
    have hj2 : nb (L.vs.set 2 (.int .i64 ((s.words : Int) + n))) = some j := hj
    rw [nb_set (by omega)] at hj2
    exact hL.tN j hj2
  · intro q hq
    show L.T (Reg.rb (if q = r then _ else _)) = _
    by_cases hqr : q = r
    · rw [if_pos hqr, hqr]; exact tR
    · rw [if_neg hqr]; exact hL.tR q hq
  · intro q hq
    show L.T (Reg.cb (if q = r then _ else _)) = _
    by_cases hqr : q = r
    · rw [if_pos hqr, hqr]; exact tC
    · rw [if_neg hqr]; exact hL.tC q hq
  · intro q hq j hj
    have hj2 : (Reg.tv (if q = r then (⟨(L.reg r).rb, (L.reg r).tv, (L.reg r).cb, (L.reg r).ts, (L.reg r).mn + 1, (L.reg r).nx, (L.reg r).lf⟩ : Reg) else L.reg q)).ownBlock = some j := hj
    by_cases hqr : q = r
    · rw [if_pos hqr] at hj2; rw [hqr]; exact hL.tT r hr1 j hj2
    · rw [if_neg hqr] at hj2; exact hL.tT q hq j hj2
  · intro j hj
    have := hL.lt j hj
    have := kk.size
    omega
  · intro c hc j z hz
    have hc2 : c ∈ s.cells ++ [(⟨r, ad, List.replicate n 0⟩ : ACell)] := hc
    rcases List.mem_append.1 hc2 with h1 | h1
    · exact hL.vals c (by rw [tc]; exact h1) j z hz
    · rw [List.mem_singleton.1 h1] at hz ⊢
      simp only at hz ⊢
      have hj := (List.getElem?_eq_some_iff.1 hz).1
      rw [List.length_replicate] at hj
      rw [List.getElem?_replicate, if_pos hj] at hz
      rw [← hz]
      refine hL.zero (ad + j) (inside _ (by omega) (by omega)) (fun d hd hcov => ?_)
      rw [tc] at hd
      have := far d hd
      omega
  · intro j hj hno
    refine hL.zero j hj (fun d hd => hno d ?_)
    rw [tc] at hd
    exact List.mem_append.2 (.inl hd)

set_option maxRecDepth 100000 in
set_option maxHeartbeats 1600000 in
theorem sa_made {w : World} {sp : Addr} {s : ASt} {F : Nat → Prop} (h : SA w sp s F) (hG : s.Good) (hW : s.Within 200) (r n : Nat) (hr : r ∈ s.opens) (hn : 1 ≤ n) (hn2 : n ≤ 4097) :
    Calls Try.prog 15 #[.pointer (some sp), .int .i64 (r : Int), .int .i64 (n : Int)] w fun e w' => e = .returned (.tuple #[.int .i64 ((s.place r n).1 : Int), .int .i64 0]) ∧ Now SA w F sp (s.made r n) w' := by
  obtain ⟨L, hL, rfl⟩ := h
  have hO : s.isOpen (r : Int) := ⟨by omega, by rw [Int.toNat_natCast]; exact hr⟩
  have hrl := hG.lt r hr
  have hmany := hW.many
  have rg := st_region hL (r : Int) (by unfold I64; omega)
  rw [if_pos hO, Int.toNat_natCast] at rg
  simp only [ptrOf] at rg
  have rs := room_sat hL hG hW r n hr hn hn2
  obtain ⟨c0, c1⟩ := hL.c0
  have hsp := hL.sp
  rw [← hsp] at c0
  subst hsp
  have d1 : decide ((n : Int) < 1) = false := by simp; omega
  have d2 : decide ((4097 : Int) < (n : Int)) = false := by simp; omega
  have hwb : s.words ≤ 1000000 := by
    have h1 : ∀ l : List ACell, (∀ c ∈ l, c.ws.length ≤ 4097) → (l.map (·.ws.length)).sum ≤ 4097 * l.length := by
      intro l
      induction l with
      | nil => intro _; simp
      | cons c l ih =>
        intro hl
        have := ih (fun d hd => hl d (List.mem_cons_of_mem _ hd))
        have := hl c (List.mem_cons_self ..)
        simp only [List.map_cons, List.sum_cons, List.length_cons]
        omega
    have := h1 s.cells hW.wide
    have := hW.cells
    unfold ASt.words
    omega
  have hwi : wordsIn s r ≤ 1000000 := by
    have h1 : ∀ l : List ACell, ((l.filter (·.reg = r)).map (·.ws.length)).sum ≤ (l.map (·.ws.length)).sum := by
      intro l
      induction l with
      | nil => simp
      | cons c l ih =>
        rw [List.filter_cons]
        split
        · simp only [List.map_cons, List.sum_cons]; omega
        · simp only [List.map_cons, List.sum_cons]; omega
    have := h1 s.cells
    unfold wordsIn
    unfold ASt.words at hwb
    omega
  obtain ⟨ad, hadd⟩ : ∃ ad, ad = (s.place r n).1 := ⟨_, rfl⟩
  have hab : ad ≤ 1000000 := by
    have := (placed hG hr hn).mine (s.place r n).1 (Nat.le_refl _) (by omega)
    have h2 := (List.getElem?_eq_some_iff.1 this).1
    have h3 := place_owner (s := s) r hn hn2
    have h4 := hW.owner
    omega
  rw [← hadd] at rs
  rw [← hadd]
  have RG := Lib.hid rg
  have RS := Lib.hid rs
  have HG := Lib.hid hG
  have HR := Lib.hid hr
  have HL := Lib.hid hL
  have HA := Lib.hid hadd
  have HOw := Lib.hid (place_many s r n)
  have HW := Lib.hid hW
  clear rg rs hG hr hL hadd hO hW
  go_enter Try.func15, Try.ntmps15
  go_upto_region 7 with (first | (go_at_call 32; refine RG.out.mono ?_; rintro e w2 ⟨rfl, rfl⟩) | (go_at_call 35; refine RS.out.mono ?_; rintro e w3 ⟨rfl, L1, hRm⟩))
  obtain ⟨hs1, hs2, hs3, hs4⟩ := hRm.same
  have hS := hRm.sat
  have hop : r ∈ (s.place r n).2.opens := by rw [HOw.out.2.1]; exact HR.out
  have x1 := hS.regs r hop
  have q1 : w3.cell? ⟨(L.reg r).rb, 1, none⟩ = some (.map (some (L.reg r).cb)) := by rw [← hs3, x1.blk.cell, ← hs4]; rfl
  have hcm := x1.cells
  rw [hs4] at hcm
  have hmn : (L1.reg r).mn < 1000000 := by
    have h1 := x1.few
    rw [place_ever] at h1
    have := HW.out.ever
    omega
  have HRM := Lib.hid hRm
  clear hS hRm
  go_wp2_with (at_mapUpdate; go_loud (refine wpList_putI _ rfl _ _ _ rfl hcm hmn (k := (ad : Int)) (by unfold I64; omega) (y := n) (by omega) rfl rfl rfl ?_))
  intro w4 hm4 gr4
  have hS := HRM.out.sat
  have kg : Kept (fun j => j = (L.reg r).cb) w3 w4 := Kept.grown (Kept.refl _ _) gr4 (fun j hj => .inl (by simpa using hj.symm))
  have tR := hS.tR r hop
  have tC := hS.tC r hop
  rw [hs3] at tR
  rw [hs4] at tC
  have bR := Blk.keep kg x1.blk (by rw [hs3]; exact Lay.ne tR tC (by simp))
  have tM := hS.tM
  have tS := hS.tS
  have bM := Blk.keep kg hS.pg.tr.1 (Lay.ne tM tC (by simp))
  have bS := Blk.keep kg hS.store (Lay.ne tS tC (by simp))
  rw [hs3] at bR
  rw [hs2] at bM tM
  rw [hs1, hs2] at bS
  have r2 := bR.cell 2
  have fr2 := bR.frozen 2
  have lR := bR.lt
  have m2 := bM.cell 2
  rw [hS.v2] at m2
  have fm2 := bM.frozen 2
  have lM := bM.lt
  have s1 := bS.cell 1
  simp only [List.getElem?_cons_zero, List.getElem?_cons_succ] at r2 s1
  have neRM : ¬ ((L.reg r).rb = L.mb) := Lay.ne tR tM (by simp)
  have neSR : ¬ (L.sb = (L.reg r).rb) := Lay.ne (by rw [← hs1]; exact tS) tR (by simp)
  have ewt : (s.place r n).2.words = s.words := by unfold ASt.words; rw [HOw.out.2.2]
  have ewi : wordsIn (s.place r n).2 r = wordsIn s r := by unfold wordsIn; rw [HOw.out.2.2]
  rw [ewi] at r2
  rw [ewt] at m2
  rw [← hs4, HA.out] at hm4
  rw [← hs4] at gr4
  obtain ⟨g1, g2⟩ := sat_made HG.out HR.out hn hS hm4 gr4
  rw [hs2, hs3] at g1 g2
  have G1 := Lib.hid g1
  have G2 := Lib.hid g2
  clear g1 g2 hS kg tR tC tM tS bR bM bS gr4 hm4 x1 q1 hcm
  go_wp2
  go_ret2
  refine ⟨rfl, _, ⟨_, G1.out, rfl⟩, HRM.out.grow, ?_⟩
  exact HRM.out.kept.next G2.out (fun j hj => HRM.out.grow j hj)

end Go.Proofs.Ytfoacgdahonapaa
