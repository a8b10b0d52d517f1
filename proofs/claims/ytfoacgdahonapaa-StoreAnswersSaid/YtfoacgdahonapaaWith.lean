/- What a user does, whatever it is asked: it answers true, and is the user that it should be. -/
import Derived.Test.YtfoacgdahonapaaWithGet
import Derived.Test.YtfoacgdahonapaaWithSet
import Derived.Test.YtfoacgdahonapaaWithOpen
import Derived.Test.YtfoacgdahonapaaWithMake
import Derived.Test.YtfoacgdahonapaaWithClose
namespace Go.Proofs.Ytfoacgdahonapaa
open Go.RowKit Abs
set_option linter.unusedVariables false

set_option maxRecDepth 100000 in
set_option maxHeartbeats 1600000 in
/-- No cell is there to be read or written. -/
theorem with_none_core (w : World) (ub : Nat) (ob : Nat) (on oc : Nat) (ca : Option Addr) (cc : Nat) (d r wd a f v : Int)
   (hd0 : 0 ≤ d) (hd1 : d ≤ 255) (hr : I64 r) (hd : 4 ≤ d % 8) (ho : 0 < on) (ho2 : on ≤ 200) (hlt : ub < w.heap.size) (hob : ob < w.heap.size)
   (h2 : w.cell? ⟨ub, 2, none⟩ = some (.slice (some ⟨ob, 0, none⟩) on oc))
   (h3 : w.cell? ⟨ub, 3, none⟩ = some (.slice ca 0 cc))
   (at' : Nat) (hat : Hid (around r on = at')) (hat1 : at' < on) (reg : Int) (hat2 : w.cell? ⟨ob, at', none⟩ = some (.int .i64 reg)) :
   Calls Try.prog 27 #[.pointer (some ⟨ub, 0, none⟩), .agg #[.int .u8 d, .int .i64 r, .int .i64 wd, .int .i64 a, .int .i64 f, .int .i64 v]] w (fun e w' => e = .returned (.bool true) ∧ Kept Nil w w') := by
  have e0 : (d % 8 == 0) = false := by rw [beq_eq_false_iff_ne]; omega
  have e1 : ((on : Int) == 0) = false := by rw [beq_eq_false_iff_ne]; omega
  have e2 : (d % 8 == 1) = false := by rw [beq_eq_false_iff_ne]; omega
  have e4 : decide (d % 8 < 4) = false := by simp; omega
  clear hd
  go_enter Try.func27, Try.ntmps27
  go_wp2_with fail
  go_quiet ((go_at_call 39; exact Calls.quiet_of_same (around_at _ _ at' _ hr (by omega) (by omega) hat)))
  go_wp2
  go_ret
  exact ⟨rfl, Kept.drewN (Kept.alloc (Kept.refl _ _) _) _⟩

/-- Where a list has no element twice, leaving out the one at a place is leaving out that number. -/
theorem filter_out {l : List Nat} (hn : l.Nodup) {i r : Nat} (h : l[i]? = some r) : l.filter (· ≠ r) = l.take i ++ l.drop (i + 1) := by
  have hl : l = l.take i ++ r :: l.drop (i + 1) := by
    obtain ⟨hi, rfl⟩ := List.getElem?_eq_some_iff.1 h
    rw [List.getElem_cons_drop hi, List.take_append_drop]
  generalize l.take i = x at hl ⊢
  generalize l.drop (i + 1) = y at hl ⊢
  subst hl
  rw [List.nodup_append] at hn
  obtain ⟨_, h2, h3⟩ := hn
  have e1 : x.filter (· ≠ r) = x := List.filter_eq_self.2 (fun a ha => by
    have := h3 a ha r List.mem_cons_self
    simpa using this)
  have e2 : y.filter (· ≠ r) = y := List.filter_eq_self.2 (fun a ha => by
    have := (List.nodup_cons.1 h2).1
    simp only [ne_eq, decide_not, Bool.not_eq_true', decide_eq_false_iff_not]
    intro e; subst e; exact this ha)
  rw [List.filter_append, List.filter_cons, e1, e2]
  simp

section
variable {SA : World → Addr → ASt → (Nat → Prop) → Prop} {w : World} {u : UData} {s : ASt} {large : Bool} {B : Nat} {d r n a f v : Int}

/-- The store behind a step that leaves its blocks alone. -/
theorem store_at (L : StoreLaws SA) (h : UserAt SA w u s large B) {S : Nat → Prop} {W : World} (k : Kept S w W) (hs : ∀ i, S i → ¬ u.F i) : SA W u.sp s u.F :=
  L.frame h.store (fun i hi => k.block i (L.lt h.store i hi) (fun si => hs i si hi))

theorem base_le (h : UserAt SA w u s large B) : B ≤ w.heap.size := by
  have := h.base u.ub (.inl rfl)
  have := h.blk.lt
  omega

theorem with_opened (L : StoreLaws SA) (h : UserAt SA w u s large B) (g : s.Good) (wi : s.Within 199) (hd0 : 0 ≤ d) (hd1 : d ≤ 255) (hc : d % 8 = 0 ∨ s.opens = []) :
    Calls Try.prog 27 #[.pointer (some ⟨u.ub, 0, none⟩), .agg #[.int .u8 d, .int .i64 r, .int .i64 n, .int .i64 a, .int .i64 f, .int .i64 v]] w fun e w' => e = .returned (.bool true) ∧ UserNow SA w u s.opened large B w' := by
  obtain ⟨oa, oc, hov⟩ := row_form h.opens
  have hb := h.blk
  have hown := h.opens
  rw [hov] at hb hown
  have hBs := base_le h
  refine (with_open_core w u.ub u.sp s.many u.cv oa oc s.opens large d r n a f v hd0 hd1 (hc.imp id (fun e => by rw [e]; rfl)) (Nat.le_trans wi.opens (by omega)) (Nat.le_trans wi.many (by omega)) hb hown
    (by rw [← hov]; exact h.ubOv) u.F h.ubF (by rw [← hov]; exact h.ovF) (fun w' => ∃ F' : Nat → Prop, SA w' u.sp s.opened F' ∧ (∀ k, F' k → u.F k ∨ w.heap.size ≤ k)) ?_).mono ?_
  · intro W kW
    refine (L.opened (store_at L h kW (fun i hi => hi.elim)) g (wi.mono (by omega))).mono ?_
    rintro e w' ⟨rfl, F', h1, h2, h3⟩
    exact ⟨rfl, h3, F', h1, fun k hk => (h2 k hk).imp id (fun hk => Nat.le_trans kW.size hk)⟩
  · rintro e w' ⟨rfl, w1, w2, gg, cap, k1, k2, ⟨F', hSA, hF'⟩, O⟩
    refine ⟨rfl, ⟨u.ub, u.sp, .slice (some ⟨gg, 0, none⟩) (s.opens.length + 1) cap, u.cv, u.cs, F'⟩, ?_, rfl, ?_⟩
    · have old : ∀ b, b < w.heap.size → ¬ u.F b → ¬ F' b := fun b hb hf hf' => (hF' b hf').elim hf (by omega)
      have lF := L.lt hSA
      have lo := UserAt.lt L h
      have h12 : Kept u.F w w2 := k1.wide.trans k2
      have sz : w.heap.size ≤ w2.heap.size := h12.size
      have O1 := O.kept
      have O4 := O.lies
      rw [← hov] at O1 O4
      have kk : Kept (fun k => u.F k ∨ k = u.ub ∨ u.ov.ownBlock = some k) w w' := (h12.mono (fun _ => .inl)).trans (O1.mono (fun _ => .inr))
      have gnF : ¬ F' gg := by
        rcases O4 with e | e
        · exact old gg (lo _ (.inr (.inl e))) (h.ovF _ e)
        · exact fun hf => by have := lF gg hf; omega
      have gcase : ∀ b, b < w.heap.size → u.ov.ownBlock ≠ some b → gg ≠ b := by
        intro b hb hne e
        subst e
        rcases O4 with e | e
        · exact hne e
        · omega
      refine ⟨?_, ?_, ?_, h.same, ?_, ?_, ?_, ?_, h.ubCv, h.ubCs, ?_, ?_, ?_, ?_, h.cvCs, ?_, h.csCs, ?_⟩
      · have := O.blk
        simpa [ASt.opened] using this
      · have := O.row
        simpa [ASt.opened] using this
      · exact kk.row h.cells (fun k hk hs => by
          rcases hs with hs | rfl | hs
          · exact h.cvF k hk hs
          · exact h.ubCv hk
          · exact h.ovCv k hs hk)
      · intro x hx
        exact Blk.keep kk (h.fields x hx) (fun hs => by
          rcases hs with hs | hs | hs
          · exact h.csF x hx hs
          · exact h.ubCs x hx hs
          · exact h.ovCs x hx hs)
      · exact L.frame hSA (fun k hk => O1.block k (lF k hk) (fun hs => by
          rcases hs with rfl | hs
          · exact old _ (lo _ (.inl rfl)) h.ubF hk
          · exact old _ (lo _ (.inr (.inl hs))) (h.ovF _ hs) hk))
      · intro k hk
        rcases hk with rfl | hk | hk | hk | hk
        · exact h.base _ (.inl rfl)
        · simp only [Value.ownBlock, Option.some.injEq] at hk
          subst hk
          rcases O4 with e | e
          · exact h.base _ (.inr (.inl e))
          · omega
        · exact h.base _ (.inr (.inr (.inl hk)))
        · exact h.base _ (.inr (.inr (.inr (.inl hk))))
        · rcases hF' k hk with e | e
          · exact h.base _ (.inr (.inr (.inr (.inr e))))
          · omega
      · simp only [Value.ownBlock, ne_eq, Option.some.injEq]
        exact gcase _ (lo _ (.inl rfl)) h.ubOv
      · exact old _ (lo _ (.inl rfl)) h.ubF
      · intro k hk hk2
        simp only [Value.ownBlock, Option.some.injEq] at hk
        exact gcase k (lo _ (.inr (.inr (.inl hk2)))) (fun e => h.ovCv k e hk2) hk
      · intro x hx
        simp only [Value.ownBlock, ne_eq, Option.some.injEq]
        exact gcase _ (lo _ (.inr (.inr (.inr (.inl ⟨x, hx, rfl⟩))))) (h.ovCs x hx)
      · intro k hk
        simp only [Value.ownBlock, Option.some.injEq] at hk
        subst hk; exact gnF
      · intro k hk; exact old _ (lo _ (.inr (.inr (.inl hk)))) (h.cvF k hk)
      · intro x hx; exact old _ (lo _ (.inr (.inr (.inr (.inl ⟨x, hx, rfl⟩))))) (h.csF x hx)
    · have O1 := O.kept
      rw [← hov] at O1
      exact ((k1.wide.trans (k2.mono (fun _ h => .inr (.inr (.inr (.inr h)))))).trans (O1.mono (fun k hs => by
        rcases hs with rfl | hs
        · exact .inl rfl
        · exact .inr (.inl hs))))

/-- Which region is meant. -/
theorem picked (h : UserAt SA w u s large B) (ho : s.opens ≠ []) : ∃ reg, s.opens[pick r s.opens.length]? = some reg ∧ s.opens.getD (pick r s.opens.length) 0 = reg ∧ reg ∈ s.opens := by
  have hl : 0 < s.opens.length := List.length_pos_iff.2 ho
  have hp := pick_lt r hl
  refine ⟨s.opens[pick r s.opens.length], List.getElem?_eq_getElem hp, ?_, List.getElem_mem _⟩
  rw [List.getD_eq_getElem?_getD, List.getElem?_eq_getElem hp]; rfl

theorem with_closed (L : StoreLaws SA) (h : UserAt SA w u s large B) (g : s.Good) (wi : s.Within 199) (hd0 : 0 ≤ d) (hd1 : d ≤ 255) (hr : I64 r) (hc : d % 8 = 1) (ho : s.opens ≠ []) :
    Calls Try.prog 27 #[.pointer (some ⟨u.ub, 0, none⟩), .agg #[.int .u8 d, .int .i64 r, .int .i64 n, .int .i64 a, .int .i64 f, .int .i64 v]] w fun e w' => e = .returned (.bool true) ∧
      UserNow SA w u (s.closed (s.opens.getD (pick r s.opens.length) 0)) large B w' := by
  obtain ⟨reg, hreg, hgd, hmem⟩ := picked (r := r) h ho
  rw [hgd]
  have hl : 0 < s.opens.length := List.length_pos_iff.2 ho
  obtain ⟨ob, oc, hov, _⟩ := row_some h.opens hl
  obtain ⟨ca, cc, hcv⟩ := row_form h.cells
  have hb := h.blk
  have hownO := h.opens
  have hownC := h.cells
  rw [hov, hcv] at hb
  rw [hov] at hownO
  rw [hcv] at hownC
  have hBs := base_le h
  have hlen : u.cs.length = s.cells.length := by rw [← h.same, List.length_map]
  have lo := UserAt.lt L h
  have g' := good_closed g reg
  have wi' := within_closed wi reg
  have hnot : ¬ (s.closed reg).isOpen reg := fun hh => by
    have := hh.2
    simp [ASt.closed] at this
  have hregI : I64 (reg : Int) := by
    have h1 := g.lt reg hmem
    have h2 := wi.many
    unfold I64
    omega
  have hcbx : ∃ cb : Nat, Hid (0 < s.cells.length → ca = some ⟨cb, 0, none⟩) := by
    by_cases h0 : 0 < s.cells.length
    · obtain ⟨cb, cap, e, _⟩ := row_some hownC h0
      refine ⟨cb, fun _ => ?_⟩
      simp only [Value.slice.injEq, true_and] at e
      exact e.1
    · exact ⟨0, fun h => absurd h h0⟩
  obtain ⟨cb, hcb⟩ := hcbx
  let R : World → Prop := fun w' => ∃ W ov' cv' F', Struck w W u.ub u.sp s.many ov' cv' large (s.opens.take (pick r s.opens.length) ++ s.opens.drop (pick r s.opens.length + 1)) (u.cs.filter (fun x => x.1.reg ≠ reg)) ∧
    SA w' u.sp (s.closed reg) F' ∧ (∀ k, F' k → u.F k ∨ W.heap.size ≤ k) ∧ Kept u.F W w'
  refine (with_close_core w u.ub u.sp s.many ob s.opens.length oc ca s.cells.length cc large d r n a f v hd0 hd1 hr hc hl (Nat.le_trans wi.opens (by omega)) (Nat.le_trans wi.cells (by omega)) hb
    (by have := h.ubOv; rw [hov] at this; intro e; exact this (by rw [e]; rfl)) s.opens rfl hownO u.cs hlen (by rw [← hlen] at hownC ⊢; exact hownC) (by rw [← hcv]; exact h.ubCv)
    (pick r s.opens.length) (pick_eq r hl) (pick_lt r hl) reg hreg cb hcb R (fun w'' => ∃ w', R w' ∧ Kept Nil w' w'') ?_ ?_).mono ?_
  · intro W ov' cv' hS
    refine (L.closed (store_at L h hS.kept (fun i hi => by subst hi; exact h.ubF)) g (wi.mono (by omega)) reg hmem).mono ?_
    rintro e w' ⟨rfl, F', h1, h2, h3⟩
    refine ⟨rfl, ?_, W, ov', cv', F', hS, h1, h2, h3⟩
    exact h3.cell (by rw [hS.blk.cell]; rfl) h.ubF
  · rintro W ⟨W1, ov', cv', F', h1, h2, h3, h4⟩
    refine (L.shut h2 g' (wi'.mono (by omega)) reg hregI hnot).mono ?_
    rintro e w' ⟨rfl, hk⟩
    exact ⟨rfl, W, ⟨W1, ov', cv', F', h1, h2, h3, h4⟩, hk⟩
  · rintro e w' ⟨rfl, w2, ⟨W, ov', cv', F', S, hSA, hF', kF⟩, kN⟩
    refine ⟨rfl, ⟨u.ub, u.sp, ov', cv', u.cs.filter (fun x => x.1.reg ≠ reg), F'⟩, ?_, rfl, ?_⟩
    · have szW : w.heap.size ≤ W.heap.size := S.kept.size
      have old : ∀ b, b < W.heap.size → ¬ u.F b → ¬ F' b := fun b hb hf hf' => (hF' b hf').elim hf (by omega)
      have lF := L.lt hSA
      have kW : Kept u.F W w' := kF.trans kN.wide
      have sub : ∀ x, x ∈ u.cs.filter (fun x => x.1.reg ≠ reg) → x ∈ u.cs := fun x hx => (List.mem_filter.1 hx).1
      have oldC : ∀ x ∈ u.cs, x.2 < w.heap.size := fun x hx => lo _ (.inr (.inr (.inr (.inl ⟨x, hx, rfl⟩))))
      have hou : u.ub < w.heap.size := lo _ (.inl rfl)
      have notF : ∀ k, w.heap.size ≤ k → ¬ u.F k := fun k hk hf => by have := lo k (.inr (.inr (.inr (.inr hf)))); omega
      have ltO : ∀ k, ov'.ownBlock = some k → k < W.heap.size := fun k hk => (S.opens.lt k hk).2
      have ltC : ∀ k, cv'.ownBlock = some k → k < W.heap.size := fun k hk => (S.cells.lt k hk).2
      have hopens : (s.closed reg).opens = s.opens.take (pick r s.opens.length) ++ s.opens.drop (pick r s.opens.length + 1) := filter_out g.nodup hreg
      have hcells : (u.cs.filter (fun x => x.1.reg ≠ reg)).map (·.1) = (s.closed reg).cells := by
        show _ = s.cells.filter (·.reg ≠ reg)
        rw [← h.same, List.filter_map]; rfl
      refine ⟨?_, ?_, ?_, hcells, ?_, ?_, ?_, ?_, ?_, ?_, ?_, ?_, ?_, ?_, ?_, ?_, ?_, ?_⟩
      · exact Blk.keep kW S.blk h.ubF
      · rw [hopens]
        exact kW.row S.opens (fun k hk => notF k (S.freshO k hk))
      · rw [← hcells, List.length_map]
        exact kW.row S.cells (fun k hk => notF k (S.freshC k hk))
      · intro x hx
        exact Blk.keep kW (Blk.keep S.kept (h.fields x (sub x hx)) (h.ubCs x (sub x hx))) (h.csF x (sub x hx))
      · exact L.frame hSA (fun k hk => kN.block k (lF k hk) id)
      · intro k hk
        rcases hk with rfl | hk | hk | ⟨x, hx, rfl⟩ | hk
        · exact h.base _ (.inl rfl)
        · have := S.freshO k hk; omega
        · have := S.freshC k hk; omega
        · exact h.base _ (.inr (.inr (.inr (.inl ⟨x, sub x hx, rfl⟩))))
        · rcases hF' k hk with e | e
          · exact h.base _ (.inr (.inr (.inr (.inr e))))
          · omega
      · intro e; have h1 : w.heap.size ≤ u.ub := S.freshO _ e; omega
      · intro e; have h1 : w.heap.size ≤ u.ub := S.freshC _ e; omega
      · intro x hx; exact h.ubCs x (sub x hx)
      · exact old u.ub (by omega) h.ubF
      · exact S.diff
      · intro x hx e; have := S.freshO _ e; have := oldC x (sub x hx); omega
      · intro k hk; exact old k (ltO k hk) (notF k (S.freshO k hk))
      · intro x hx e; have := S.freshC _ e; have := oldC x (sub x hx); omega
      · intro k hk; exact old k (ltC k hk) (notF k (S.freshC k hk))
      · exact h.csCs.sublist (List.filter_sublist.map _)
      · intro x hx; exact old _ (by have := oldC x (sub x hx); omega) (h.csF x (sub x hx))
    · exact ((S.kept.mono (fun k hs => .inl hs)).trans (kF.mono (fun k hs => .inr (.inr (.inr (.inr hs)))))).trans kN.wide

theorem with_made (L : StoreLaws SA) (h : UserAt SA w u s large B) (g : s.Good) (wi : s.Within 199) (hd0 : 0 ≤ d) (hd1 : d ≤ 255) (hr : I64 r) (hn : I64 n) (hc : 2 ≤ d % 8) (hc2 : d % 8 < 4) (ho : s.opens ≠ []) :
    Calls Try.prog 27 #[.pointer (some ⟨u.ub, 0, none⟩), .agg #[.int .u8 d, .int .i64 r, .int .i64 n, .int .i64 a, .int .i64 f, .int .i64 v]] w fun e w' => e = .returned (.bool true) ∧
      UserNow SA w u (s.made (s.opens.getD (pick r s.opens.length) 0) (1 + pick n 40)) (large || decide (16 < 1 + pick n 40)) B w' := by
  obtain ⟨reg, hreg, hgd, hmem⟩ := picked (r := r) h ho
  rw [hgd]
  have hl : 0 < s.opens.length := List.length_pos_iff.2 ho
  obtain ⟨ob, oc, hov, hob, _⟩ := row_some h.opens hl
  obtain ⟨ca, cc, hcv⟩ := row_form h.cells
  have hb := h.blk
  have hownO := h.opens
  have hownC := h.cells
  rw [hov, hcv] at hb
  rw [hov] at hownO
  rw [hcv] at hownC
  have hBs := base_le h
  have lo := UserAt.lt L h
  have hp := pick_lt n (m := 40) (by omega)
  have hat2 : w.cell? ⟨ob, pick r s.opens.length, none⟩ = some (.int .i64 (reg : Int)) := by
    rw [hownO.cellAt _ (by have := pick_lt r hl; omega), List.getElem?_map, hreg]; rfl
  refine (with_make_core w u.ub u.sp s.many ob s.opens.length oc ca s.cells.length cc large d r n a f v hd0 hd1 hr hn hc hc2 hl (Nat.le_trans wi.opens (by omega)) (Nat.le_trans wi.cells (by omega)) hb hob
    (by have := h.ubOv; rw [hov] at this; intro e; exact this (by rw [e]; rfl)) _ hownC (by rw [← hcv]; exact h.ubCv)
    (pick r s.opens.length) (pick_eq r hl) (pick_lt r hl) reg hat2 (pick n 40) (pick_eq n (m := 40) (by omega)) hp ((s.place reg (1 + pick n 40)).1 : Int) u.F h.ubF (by rw [← hcv]; exact h.cvF)
    (fun w' => ∃ F' : Nat → Prop, SA w' u.sp (s.made reg (1 + pick n 40)) F' ∧ (∀ k, F' k → u.F k ∨ w.heap.size ≤ k)) ?_).mono ?_
  · intro W kW
    have H := L.made (store_at L h kW (fun i hi => by subst hi; exact h.ubF)) g (wi.mono (by omega)) reg (1 + pick n 40) hmem (by omega) (by omega)
    rw [show ((1 + pick n 40 : Nat) : Int) = 1 + (pick n 40 : Int) by omega] at H
    refine H.mono ?_
    rintro e w' ⟨rfl, F', h1, h2, h3⟩
    exact ⟨rfl, h3, F', h1, fun k hk => (h2 k hk).imp id (fun hk => Nat.le_trans kW.size hk)⟩
  · rintro e w' ⟨rfl, w1, w2, fb, gg, cap, k1, k2, ⟨F', hSA, hF'⟩, O⟩
    refine ⟨rfl, ⟨u.ub, u.sp, u.ov, .slice (some ⟨gg, 0, none⟩) (s.cells.length + 1) cap, u.cs ++ [(⟨reg, (s.place reg (1 + pick n 40)).1, List.replicate (1 + pick n 40) 0⟩, fb)], F'⟩, ?_, rfl, ?_⟩
    · have old : ∀ b, b < w.heap.size → ¬ u.F b → ¬ F' b := fun b hb hf hf' => (hF' b hf').elim hf (by omega)
      have lF := L.lt hSA
      have O1 := O.kept
      have O4 := O.lies
      have OB := O.blk
      have Of := O.fresh
      rw [← hcv] at O1 O4
      rw [← hov] at OB
      have k12 : Kept (fun k => u.F k ∨ k = u.ub) w w2 := (k1.mono (fun _ e => .inr e)).trans (k2.mono (fun _ => .inl))
      have sz : w.heap.size ≤ w2.heap.size := k12.size
      have kk : Kept (fun k => u.F k ∨ k = u.ub ∨ u.cv.ownBlock = some k) w w' := (k12.mono (fun k hk => hk.imp id .inl)).trans (O1.mono (fun _ => .inr))
      have gnF : ¬ F' gg := by
        rcases O4 with e | e
        · exact old gg (lo _ (.inr (.inr (.inl e)))) (h.cvF _ e)
        · exact fun hf => by have := lF gg hf; omega
      have gcase : ∀ b, b < w.heap.size → u.cv.ownBlock ≠ some b → gg ≠ b := by
        intro b hb hne e
        subst e
        rcases O4 with e | e
        · exact hne e
        · omega
      have oldC : ∀ x ∈ u.cs, x.2 < w.heap.size := fun x hx => lo _ (.inr (.inr (.inr (.inl ⟨x, hx, rfl⟩))))
      refine ⟨?_, ?_, ?_, ?_, ?_, ?_, ?_, h.ubOv, ?_, ?_, ?_, ?_, ?_, ?_, ?_, ?_, ?_, ?_⟩
      · have e1 : (s.made reg (1 + pick n 40)).many = s.many := (place_many s reg (1 + pick n 40)).1
        rw [e1]; exact OB
      · have e1 : (s.made reg (1 + pick n 40)).opens = s.opens := (place_many s reg (1 + pick n 40)).2.1
        rw [e1]
        exact kk.row h.opens (fun k hk hs => by
          rcases hs with hs | rfl | hs
          · exact h.ovF k hk hs
          · exact h.ubOv hk
          · exact h.ovCv k hk hs)
      · have := O.row
        simp only [ASt.made, List.length_append, List.length_singleton, List.flatMap_append, List.flatMap_cons, List.flatMap_nil, cellVals, List.length_replicate, List.append_nil]
        exact this
      · simp only [List.map_append, List.map_cons, List.map_nil, h.same, ASt.made]
      · intro x hx
        rcases List.mem_append.1 hx with hx | hx
        · exact Blk.keep kk (h.fields x hx) (fun hs => by
            rcases hs with hs | hs | hs
            · exact h.csF x hx hs
            · exact h.ubCs x hx hs
            · exact h.cvCs x hx hs)
        · simp only [List.mem_singleton] at hx
          subst hx
          have := O.fields
          simpa [ints] using this
      · exact L.frame hSA (fun k hk => O1.block k (lF k hk) (fun hs => by
          rcases hs with rfl | hs
          · exact old _ (lo _ (.inl rfl)) h.ubF hk
          · exact old _ (lo _ (.inr (.inr (.inl hs)))) (h.cvF _ hs) hk))
      · intro k hk
        rcases hk with rfl | hk | hk | ⟨x, hx, rfl⟩ | hk
        · exact h.base _ (.inl rfl)
        · exact h.base _ (.inr (.inl hk))
        · simp only [Value.ownBlock, Option.some.injEq] at hk
          subst hk
          rcases O4 with e | e
          · exact h.base _ (.inr (.inr (.inl e)))
          · omega
        · rcases List.mem_append.1 hx with hx | hx
          · exact h.base _ (.inr (.inr (.inr (.inl ⟨x, hx, rfl⟩))))
          · simp only [List.mem_singleton] at hx; subst hx; simp only; omega
        · rcases hF' k hk with e | e
          · exact h.base _ (.inr (.inr (.inr (.inr e))))
          · omega
      · simp only [Value.ownBlock, ne_eq, Option.some.injEq]
        exact gcase _ (lo _ (.inl rfl)) h.ubCv
      · intro x hx
        rcases List.mem_append.1 hx with hx | hx
        · exact h.ubCs x hx
        · simp only [List.mem_singleton] at hx; subst hx
          have := lo u.ub (.inl rfl)
          simp only; omega
      · exact old u.ub (lo _ (.inl rfl)) h.ubF
      · intro k hk hk2
        simp only [Value.ownBlock, Option.some.injEq] at hk2
        exact gcase k (lo _ (.inr (.inl hk))) (h.ovCv k hk) hk2
      · intro x hx
        rcases List.mem_append.1 hx with hx | hx
        · exact h.ovCs x hx
        · simp only [List.mem_singleton] at hx; subst hx
          intro e
          have := lo _ (.inr (.inl e))
          simp only at this; omega
      · intro k hk; exact old k (lo _ (.inr (.inl hk))) (h.ovF k hk)
      · intro x hx
        simp only [Value.ownBlock, ne_eq, Option.some.injEq]
        rcases List.mem_append.1 hx with hx | hx
        · exact gcase _ (oldC x hx) (h.cvCs x hx)
        · simp only [List.mem_singleton] at hx; subst hx
          exact Ne.symm O.diff
      · intro k hk
        simp only [Value.ownBlock, Option.some.injEq] at hk
        subst hk; exact gnF
      · rw [List.map_append, List.nodup_append]
        refine ⟨h.csCs, by simp, ?_⟩
        intro x hx y hy
        obtain ⟨z, hz, rfl⟩ := List.mem_map.1 hx
        simp at hy; subst hy
        have := oldC z hz
        omega
      · intro x hx
        rcases List.mem_append.1 hx with hx | hx
        · exact old _ (oldC x hx) (h.csF x hx)
        · simp only [List.mem_singleton] at hx; subst hx
          exact fun hf => by have := lF fb hf; omega
    · have O1 := O.kept
      rw [← hcv] at O1
      exact (((k1.mono (fun k e => .inl e)).trans (k2.mono (fun _ h => .inr (.inr (.inr (.inr h)))))).trans (O1.mono (fun k hs => by
        rcases hs with rfl | hs
        · exact .inl rfl
        · exact .inr (.inr (.inl hs)))))

/-- Which cell is meant, and where it lies. -/
theorem cell_at (L : StoreLaws SA) (h : UserAt SA w u s large B) (g : s.Good) (wi : s.Within 199) (hc : s.cells ≠ []) :
    ∃ c b cb cap, u.cs[pick a s.cells.length]? = some (c, b) ∧ s.cells.getD (pick a s.cells.length) ⟨0, 0, []⟩ = c ∧ c ∈ s.cells ∧ (c, b) ∈ u.cs ∧ u.cv = .slice (some ⟨cb, 0, none⟩) s.cells.length cap ∧ cb < w.heap.size ∧
      w.cell? ⟨cb, pick a s.cells.length * 3, none⟩ = some (.int .i64 (c.reg : Int)) ∧ w.cell? ⟨cb, pick a s.cells.length * 3 + 1, none⟩ = some (.int .i64 (c.addr : Int)) ∧
      w.cell? ⟨cb, pick a s.cells.length * 3 + 2, none⟩ = some (.slice (some ⟨b, 0, none⟩) c.ws.length c.ws.length) ∧ 1 ≤ c.ws.length ∧ c.ws.length ≤ 4097 ∧ I64 (c.reg : Int) ∧ I64 (c.addr : Int) := by
  have hl : 0 < s.cells.length := List.length_pos_iff.2 hc
  have hp := pick_lt a hl
  have hlen : u.cs.length = s.cells.length := by rw [← h.same, List.length_map]
  have hx : u.cs[pick a s.cells.length]? = some (u.cs[pick a s.cells.length]'(by omega)) := List.getElem?_eq_getElem _
  generalize (u.cs[pick a s.cells.length]'(by omega)) = x at hx
  obtain ⟨c, b⟩ := x
  have hmem : (c, b) ∈ u.cs := List.mem_of_getElem? hx
  have hcm : c ∈ s.cells := by rw [← h.same]; exact List.mem_map.2 ⟨(c, b), hmem, rfl⟩
  have hcell : s.cells[pick a s.cells.length]? = some c := by
    conv => lhs; rw [← h.same]
    rw [List.getElem?_map, h.same, hx]; rfl
  obtain ⟨cb, cap, hcv, hcb, _, _, hcells⟩ := row_some h.cells hl
  have q := fun j (hj : j < 3) => (hcells (pick a s.cells.length * 3 + j) (by omega)).trans (flat_get u.cs (pick a s.cells.length) j hj)
  have q0 := q 0 (by omega)
  have q1 := q 1 (by omega)
  have q2 := q 2 (by omega)
  rw [hx] at q0 q1 q2
  have hr := g.lt c.reg (g.reg c hcm)
  have hm := wi.many
  have ha := g.paged c hcm c.addr (Nat.le_refl _) (by have := g.pos c hcm; omega)
  have ha2 := (List.getElem?_eq_some_iff.1 ha).1
  have ho := wi.owner
  refine ⟨c, b, cb, cap, hx, ?_, hcm, hmem, hcv, hcb, q0, q1, q2, g.pos c hcm, wi.wide c hcm, ⟨by omega, by omega⟩, ⟨by omega, by omega⟩⟩
  rw [List.getD_eq_getElem?_getD, hcell]; rfl

theorem with_got (L : StoreLaws SA) (h : UserAt SA w u s large B) (g : s.Good) (wi : s.Within 199) (hd0 : 0 ≤ d) (hd1 : d ≤ 255) (hr : I64 r) (ha : I64 a) (hf : I64 f) (hc : d % 8 = 4) (ho : s.opens ≠ []) (hne : s.cells ≠ []) :
    Calls Try.prog 27 #[.pointer (some ⟨u.ub, 0, none⟩), .agg #[.int .u8 d, .int .i64 r, .int .i64 n, .int .i64 a, .int .i64 f, .int .i64 v]] w fun e w' => e = .returned (.bool true) ∧ Kept Nil w w' := by
  obtain ⟨reg, hreg, hgd, hmem⟩ := picked (r := r) h ho
  have hl : 0 < s.opens.length := List.length_pos_iff.2 ho
  have hlc : 0 < s.cells.length := List.length_pos_iff.2 hne
  obtain ⟨ob, oc, hov, hob, _⟩ := row_some h.opens hl
  obtain ⟨c, b, cb, cap, hx, _, hcm, hcs, hcv, hcb, q0, q1, q2, hpos, hwide, ir, ia⟩ := cell_at (a := a) L h g wi hne
  have hb := h.blk
  have hownO := h.opens
  rw [hov, hcv] at hb
  rw [hov] at hownO
  have hat2 : w.cell? ⟨ob, pick r s.opens.length, none⟩ = some (.int .i64 (reg : Int)) := by
    rw [hownO.cellAt _ (by have := pick_lt r hl; omega), List.getElem?_map, hreg]; rfl
  have hfi := pick_lt f (m := c.ws.length) (by omega)
  have hz := (h.fields (c, b) hcs).cell (pick f c.ws.length)
  have hz' : (ints c.ws)[pick f c.ws.length]? = some (.int .i64 (c.ws.getD (pick f c.ws.length) 0)) := by
    unfold ints
    rw [List.getElem?_map, List.getElem?_eq_getElem hfi, List.getD_eq_getElem?_getD, List.getElem?_eq_getElem hfi]; rfl
  refine (with_get_core w u.ub u.sp s.many ob cb s.opens.length oc s.cells.length cap large d r n a f v hd0 hd1 hr ha hf hc hl (Nat.le_trans wi.opens (by omega)) hlc (Nat.le_trans wi.cells (by omega))
    h.blk.lt hob hcb (by rw [hb.cell]; rfl) (by rw [hb.cell]; rfl) (by rw [hb.cell]; rfl) (pick r s.opens.length) (pick_eq r hl) (pick_lt r hl) reg hat2 (pick a s.cells.length) (pick_eq a hlc) (pick_lt a hlc)
    c.reg c.addr (c.ws.getD (pick f c.ws.length) 0) b c.ws.length (pick f c.ws.length) (pick_eq f (by omega)) hfi hwide (h.fields (c, b) hcs).lt q0 q1 q2 (hz.trans hz') ?_)
  intro W kW
  have H := L.got (store_at L h kW (fun i hi => hi.elim)) g (wi.mono (by omega)) c.reg c.addr (pick f c.ws.length) ir ia ⟨by omega, by omega⟩
  rw [got_cell g hcm _ hfi, asked_cell g hcm, if_pos ⟨by omega, by omega⟩] at H
  exact H

theorem with_stored (L : StoreLaws SA) (h : UserAt SA w u s large B) (g : s.Good) (wi : s.Within 199) (hd0 : 0 ≤ d) (hd1 : d ≤ 255) (hr : I64 r) (ha : I64 a) (hf : I64 f) (hv : I64 v) (hc : 5 ≤ d % 8) (ho : s.opens ≠ []) (hne : s.cells ≠ []) :
    Calls Try.prog 27 #[.pointer (some ⟨u.ub, 0, none⟩), .agg #[.int .u8 d, .int .i64 r, .int .i64 n, .int .i64 a, .int .i64 f, .int .i64 v]] w fun e w' => e = .returned (.bool true) ∧
      UserNow SA w u (s.stored (s.cells.getD (pick a s.cells.length) ⟨0, 0, []⟩).reg (s.cells.getD (pick a s.cells.length) ⟨0, 0, []⟩).addr (pick f (s.cells.getD (pick a s.cells.length) ⟨0, 0, []⟩).ws.length) v) large B w' := by
  obtain ⟨reg, hreg, hgd, hmem⟩ := picked (r := r) h ho
  have hl : 0 < s.opens.length := List.length_pos_iff.2 ho
  have hlc : 0 < s.cells.length := List.length_pos_iff.2 hne
  obtain ⟨ob, oc, hov, hob, _⟩ := row_some h.opens hl
  obtain ⟨c, b, cb, cap, hx, hgc, hcm, hcs, hcv, hcb, q0, q1, q2, hpos, hwide, ir, ia⟩ := cell_at (a := a) L h g wi hne
  rw [hgc]
  have hb := h.blk
  have hownO := h.opens
  rw [hov, hcv] at hb
  rw [hov] at hownO
  have lo := UserAt.lt L h
  have hat2 : w.cell? ⟨ob, pick r s.opens.length, none⟩ = some (.int .i64 (reg : Int)) := by
    rw [hownO.cellAt _ (by have := pick_lt r hl; omega), List.getElem?_map, hreg]; rfl
  have hfi := pick_lt f (m := c.ws.length) (by omega)
  have hask : s.asked c.reg c.addr (pick f c.ws.length) = 0 := by rw [asked_cell g hcm, if_pos ⟨by omega, by omega⟩]
  have hbu : u.ub ≠ b := fun e => h.ubCs (c, b) hcs e.symm
  have hbF : ¬ u.F b := h.csF (c, b) hcs
  refine (with_set_core w u.ub u.sp ob cb s.opens.length oc s.cells.length cap d r n a f v hd0 hd1 hr ha hf hc hl (Nat.le_trans wi.opens (by omega)) hlc (Nat.le_trans wi.cells (by omega))
    h.blk.lt hob hcb (by rw [hb.cell]; rfl) (by rw [hb.cell]; rfl) (by rw [hb.cell]; rfl) (pick r s.opens.length) (pick_eq r hl) (pick_lt r hl) reg hat2 (pick a s.cells.length) (pick_eq a hlc) (pick_lt a hlc)
    c.reg c.addr b c.ws.length (pick f c.ws.length) (pick_eq f (by omega)) hfi hwide q0 q1 q2 (ints c.ws) (h.fields (c, b) hcs) (by show (ints c.ws).length = _; unfold ints; rw [List.length_map]) hbu
    u.F h.ubF (fun k hk => lo k (.inr (.inr (.inr (.inr hk)))))
    (UserNow SA w u (s.stored c.reg c.addr (pick f c.ws.length) v) large B) ?_).mono ?_
  · intro W kW bW
    refine (L.stored (store_at L h kW (fun i hi => by subst hi; exact hbF)) g (wi.mono (by omega)) c.reg c.addr (pick f c.ws.length) v ir ia ⟨by omega, by omega⟩ hv).mono ?_
    rintro e w' ⟨rfl, F', hSA, hF', kF⟩
    refine ⟨by rw [hask], kF, ⟨u.ub, u.sp, u.ov, u.cv, u.cs.map (fun x => (wr c.reg c.addr (pick f c.ws.length) v x.1, x.2)), F'⟩, ?_, rfl, ?_⟩
    · have hF2 : ∀ k, F' k → u.F k ∨ w.heap.size ≤ k := fun k hk => (hF' k hk).imp id (fun e => Nat.le_trans kW.size e)
      have old : ∀ i, i < w.heap.size → ¬ u.F i → ¬ F' i := fun i hi hf hf' => (hF2 i hf').elim hf (by omega)
      have kk : Kept (fun k => u.F k ∨ k = b) w w' := (kW.mono (fun _ e => .inr e)).trans (kF.mono (fun _ => .inl))
      have oldC : ∀ x ∈ u.cs, x.2 < w.heap.size := fun x hx => lo _ (.inr (.inr (.inr (.inl ⟨x, hx, rfl⟩))))
      have hBs := base_le h
      have hst := stored_cells v hask
      have hlk := wr_like c.reg c.addr (pick f c.ws.length) v
      have hvals : (u.cs.map (fun x => (wr c.reg c.addr (pick f c.ws.length) v x.1, x.2))).flatMap cellVals = u.cs.flatMap cellVals := by
        rw [List.flatMap_map]
        refine congrArg (fun g => u.cs.flatMap g) (funext fun x => ?_)
        obtain ⟨h1, h2, h3⟩ := hlk x.1
        unfold cellVals
        simp only [h1, h2, h3]
      have mem2 : ∀ x ∈ u.cs.map (fun x => (wr c.reg c.addr (pick f c.ws.length) v x.1, x.2)), ∃ y ∈ u.cs, x.2 = y.2 ∧ x.1 = wr c.reg c.addr (pick f c.ws.length) v y.1 := by
        intro x hx
        obtain ⟨y, hy, rfl⟩ := List.mem_map.1 hx
        exact ⟨y, hy, rfl, rfl⟩
      refine ⟨?_, ?_, ?_, ?_, ?_, hSA, ?_, h.ubOv, h.ubCv, ?_, ?_, h.ovCv, ?_, ?_, ?_, ?_, ?_, ?_⟩
      · rw [hst]
        exact Blk.keep kk h.blk (fun hs => hs.elim h.ubF hbu)
      · rw [hst]
        exact kk.row h.opens (fun k hk hs => by
          rcases hs with hs | rfl
          · exact h.ovF k hk hs
          · exact h.ovCs (c, k) hcs hk)
      · rw [hst]
        simp only [List.length_map]
        rw [hvals]
        exact kk.row h.cells (fun k hk hs => by
          rcases hs with hs | rfl
          · exact h.cvF k hk hs
          · exact h.cvCs (c, k) hcs hk)
      · rw [hst]
        simp only [List.map_map]
        rw [← h.same, List.map_map]; rfl
      · intro x hx
        obtain ⟨y, hy, hy1, hy2⟩ := mem2 x hx
        rw [hy1, hy2]
        by_cases hyb : y.2 = b
        · have hyc : y = (c, b) := by
            have := h.csCs
            obtain ⟨i, hi, rfl⟩ := List.mem_iff_getElem.1 hy
            obtain ⟨j, hj, hjx⟩ := List.mem_iff_getElem.1 hcs
            have hij : i = j := by
              have h1 : (u.cs.map (·.2))[i]'(by simpa using hi) = (u.cs.map (·.2))[j]'(by simpa using hj) := by
                simp only [List.getElem_map, hjx]; exact hyb
              have hp2 := List.pairwise_iff_getElem.1 this
              rcases Nat.lt_trichotomy i j with hlt | heq | hlt
              · exact absurd h1 (hp2 i j (by simpa using hi) (by simpa using hj) hlt)
              · exact heq
              · exact absurd h1.symm (hp2 j i (by simpa using hj) (by simpa using hi) hlt)
            subst hij; exact hjx
          subst hyc
          have e1 : wr c.reg c.addr (pick f c.ws.length) v c = c.put (pick f c.ws.length) v := by
            unfold wr; rw [if_pos ((is_iff _ _ _).2 ⟨rfl, rfl⟩)]
          rw [e1]
          have : ints (c.put (pick f c.ws.length) v).ws = (ints c.ws).set (pick f c.ws.length) (.int .i64 v) := by
            unfold ints ACell.put; rw [List.map_set]
          rw [this]
          exact Blk.keep kF bW hbF
        · have hyn : wr c.reg c.addr (pick f c.ws.length) v y.1 = y.1 := by
            unfold wr
            rw [if_neg]
            intro hi
            have hi := (is_iff _ _ _).1 hi
            have hym : y.1 ∈ s.cells := by rw [← h.same]; exact List.mem_map.2 ⟨y, hy, rfl⟩
            have f1 := find_cell g hcm
            have f2 := find_cell g hym
            rw [hi.1, hi.2, f1] at f2
            have hyc : y.1 = c := (Option.some.inj f2).symm
            obtain ⟨i, hi', rfl⟩ := List.mem_iff_getElem.1 hy
            obtain ⟨j, hj, hjx⟩ := List.mem_iff_getElem.1 hcs
            apply hyb
            have hne : i ≠ j := by
              intro e; subst e; rw [hjx] at hyb; exact hyb rfl
            exfalso
            have pf := List.pairwise_iff_getElem.1 g.far
            have ei : s.cells[i]? = some c := by
              conv => lhs; rw [← h.same]
              rw [List.getElem?_map, List.getElem?_eq_getElem hi']
              exact congrArg some hyc
            have ej : s.cells[j]? = some c := by
              conv => lhs; rw [← h.same]
              rw [List.getElem?_map, List.getElem?_eq_getElem hj, hjx]; rfl
            obtain ⟨hi2, ei⟩ := List.getElem?_eq_some_iff.1 ei
            obtain ⟨hj2, ej⟩ := List.getElem?_eq_some_iff.1 ej
            have hp := g.pos c hcm
            rcases Nat.lt_or_gt_of_ne hne with hlt | hlt
            · have := pf i j hi2 hj2 hlt
              rw [ei, ej] at this
              unfold ACell.far at this; omega
            · have := pf j i hj2 hi2 hlt
              rw [ei, ej] at this
              unfold ACell.far at this; omega
          rw [hyn]
          exact Blk.keep kk (h.fields y hy) (fun hs => hs.elim (h.csF y hy) hyb)
      · intro k hk
        rcases hk with rfl | hk | hk | ⟨x, hx, rfl⟩ | hk
        · exact h.base _ (.inl rfl)
        · exact h.base _ (.inr (.inl hk))
        · exact h.base _ (.inr (.inr (.inl hk)))
        · obtain ⟨y, hy, hy1, _⟩ := mem2 x hx
          rw [hy1]
          exact h.base _ (.inr (.inr (.inr (.inl ⟨y, hy, rfl⟩))))
        · rcases hF2 k hk with e | e
          · exact h.base _ (.inr (.inr (.inr (.inr e))))
          · omega
      · intro x hx
        obtain ⟨y, hy, hy1, _⟩ := mem2 x hx
        rw [hy1]; exact h.ubCs y hy
      · exact old u.ub (lo _ (.inl rfl)) h.ubF
      · intro x hx
        obtain ⟨y, hy, hy1, _⟩ := mem2 x hx
        rw [hy1]; exact h.ovCs y hy
      · intro k hk; exact old k (lo _ (.inr (.inl hk))) (h.ovF k hk)
      · intro x hx
        obtain ⟨y, hy, hy1, _⟩ := mem2 x hx
        rw [hy1]; exact h.cvCs y hy
      · intro k hk; exact old k (lo _ (.inr (.inr (.inl hk)))) (h.cvF k hk)
      · rw [List.map_map]; exact h.csCs
      · intro x hx
        obtain ⟨y, hy, hy1, _⟩ := mem2 x hx
        rw [hy1]; exact old _ (oldC y hy) (h.csF y hy)
    · exact (kW.mono (fun k e => .inr (.inr (.inr (.inl ⟨(c, b), hcs, e.symm⟩))))).trans (kF.mono (fun _ hh => .inr (.inr (.inr (.inr hh)))))
  · rintro e w' ⟨rfl, hN⟩
    exact ⟨rfl, hN⟩

/-- THE USER's STEP, whatever it is asked. -/
theorem with_any (L : StoreLaws SA) (h : UserAt SA w u s large B) (g : s.Good) (wi : s.Within 199) (hd0 : 0 ≤ d) (hd1 : d ≤ 255) (hr : I64 r) (hn : I64 n) (ha : I64 a) (hf : I64 f) (hv : I64 v) :
    Calls Try.prog 27 #[.pointer (some ⟨u.ub, 0, none⟩), .agg #[.int .u8 d, .int .i64 r, .int .i64 n, .int .i64 a, .int .i64 f, .int .i64 v]] w fun e w' => e = .returned (.bool true) ∧
      UserNow SA w u (step s large d r n a f v).1 (step s large d r n a f v).2 B w' := by
  unfold step
  have still : ∀ w', Kept Nil w w' → UserNow SA w u s large B w' := fun w' k => ⟨u, UserAt.keep L h k (fun i hi => hi.elim), rfl, k.wide⟩
  by_cases h1 : d % 8 = 0 ∨ s.opens = []
  · rw [if_pos h1]; exact with_opened L h g wi hd0 hd1 h1
  · rw [if_neg h1]
    have ho : s.opens ≠ [] := fun e => h1 (.inr e)
    have h0 : ¬ d % 8 = 0 := fun e => h1 (.inl e)
    by_cases h2 : d % 8 = 1
    · simp only [if_pos h2]; exact with_closed L h g wi hd0 hd1 hr h2 ho
    · simp only [if_neg h2]
      by_cases h3 : d % 8 < 4
      · simp only [if_pos h3]; exact with_made L h g wi hd0 hd1 hr hn (by omega) h3 ho
      · simp only [if_neg h3]
        by_cases h4 : s.cells = []
        · simp only [if_pos h4]
          obtain ⟨reg, hreg, _, _⟩ := picked (r := r) h ho
          have hl : 0 < s.opens.length := List.length_pos_iff.2 ho
          obtain ⟨ob, oc, hov, hob, _⟩ := row_some h.opens hl
          obtain ⟨ca, cc, hcv⟩ := row_form h.cells
          have hb := h.blk
          have hownO := h.opens
          rw [hov, hcv, h4] at hb
          rw [hov] at hownO
          have hat2 : w.cell? ⟨ob, pick r s.opens.length, none⟩ = some (.int .i64 (reg : Int)) := by
            rw [hownO.cellAt _ (by have := pick_lt r hl; omega), List.getElem?_map, hreg]; rfl
          refine (with_none_core w u.ub ob s.opens.length oc ca cc d r n a f v hd0 hd1 hr (by omega) hl (Nat.le_trans wi.opens (by omega)) h.blk.lt hob (by rw [hb.cell]; rfl) (by rw [hb.cell]; rfl)
            (pick r s.opens.length) (pick_eq r hl) (pick_lt r hl) reg hat2).mono ?_
          rintro e w' ⟨rfl, k⟩
          exact ⟨rfl, still w' k⟩
        · simp only [if_neg h4]
          by_cases h5 : d % 8 < 5
          · simp only [if_pos h5]
            refine (with_got L h g wi hd0 hd1 hr ha hf (by omega) ho h4).mono ?_
            rintro e w' ⟨rfl, k⟩
            exact ⟨rfl, still w' k⟩
          · simp only [if_neg h5]
            exact with_stored L h g wi hd0 hd1 hr ha hf hv (by omega) ho h4
end

end Go.Proofs.Ytfoacgdahonapaa
