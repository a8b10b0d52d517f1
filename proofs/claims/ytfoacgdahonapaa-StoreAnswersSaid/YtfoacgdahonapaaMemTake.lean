/- 'take' of the program's memory: pages for a region. -/
import Derived.Test.YtfoacgdahonapaaSet
namespace Go.Proofs.Ytfoacgdahonapaa
open Go.RowKit Abs Tree
set_option linter.unusedVariables false

theorem infoStretch : (Try.prog.info? 72).map (fun i => (i.zero, i.size, i.bytes)) = some (some (.agg #[.int .i64 0, .int .i64 0]), 2, 16) := by kernel_rfl

theorem sv_len (ts : List (Nat × Nat)) : (ts.flatMap sv).length = ts.length * 2 := by
  induction ts with
  | nil => rfl
  | cons t ts ih => rw [List.flatMap_cons, List.length_append, ih]; simp [sv]; omega

/-- What a region gets. -/
structure Got (w w' : World) (mb : Nat) (vs : List Value) (np : Nat) (data : List Int) (b : Nat → Bool) (count : Nat) (rb : Nat) (tv m wd nx lf : Value) (ts : List (Nat × Nat)) (p np' : Nat) (data' : List Int) (cnt' : Nat) (v3 tv' : Value) : Prop where
  took : Took b np data count p np' data'
  pg : Pg w' mb ((vs.set 3 v3).set 5 (.int .i64 (cnt' : Int))) np' data' (setB b p count false) cnt'
  blk : Blk w' rb [tv', m, wd, nx, lf] 68
  own : w'.ownsRow 0 72 2 tv' (ts.length + 1) ((ts ++ [(p, count)]).flatMap sv)
  new3 : ∀ j, v3.ownBlock = some j → pb vs = some j ∨ w.heap.size ≤ j
  newT : ∀ j, tv'.ownBlock = some j → tv.ownBlock = some j ∨ (w.heap.size ≤ j ∧ v3.ownBlock ≠ some j)
  kept : Kept (fun j => pgF mb vs j ∨ j = rb ∨ tv.ownBlock = some j) w w'
  small : p ≤ 60000

set_option maxRecDepth 100000 in
set_option maxHeartbeats 3200000 in
theorem st_memtake {w : World} {mb : Nat} {vs : List Value} {np : Nat} {data : List Int} {b : Nat → Bool} {cnt count rb : Nat} {tv m wd nx lf : Value} {ts : List (Nat × Nat)} (h : Pg w mb vs np data b cnt) (hk : 1 ≤ count) (hk2 : np + count ≤ 60000)
    (hr : Blk w rb [tv, m, wd, nx, lf] 68) (ho : w.ownsRow 0 72 2 tv ts.length (ts.flatMap sv)) (hts : ts.length ≤ 100000)
    (a1 : ¬ pgF mb vs rb) (a2 : ∀ j, tv.ownBlock = some j → ¬ pgF mb vs j ∧ j ≠ rb) :
    Calls Try.prog 41 #[.pointer (some ⟨mb, 0, none⟩), .pointer (some ⟨rb, 0, none⟩), .int .i64 (count : Int)] w fun e w' => ∃ p np' data' cnt' v3 tv', e = .returned (.int .i64 ((16 * p : Nat) : Int)) ∧ Got w w' mb vs np data b count rb tv m wd nx lf ts p np' data' cnt' v3 tv' := by
  have tk := st_take h hk hk2
  have lm := h.tr.1.lt
  have lr := hr.lt
  have TK := Lib.hid tk
  have HH := Lib.hid h
  have HR := Lib.hid hr
  have HO := Lib.hid ho
  have A2 := Lib.hid a2
  have A1 := Lib.hid a1
  have few := h.few
  clear tk h hr ho a2 a1
  go_enter Try.func41, Try.ntmps41
  go_upto_region 1 with fail
  go_cut [7] (fun s7 W => ∃ (p np' : Nat) (data' : List Int) (cnt' : Nat) (v3 : Value) (b7 : Nat), s7 = .pointer (some ⟨b7, 0, none⟩) ∧ Hid (Took b np data count p np' data' ∧ Pg W mb ((vs.set 3 v3).set 5 (.int .i64 (cnt' : Int))) np' data' (setB b p count false) cnt' ∧ (∀ j, v3.ownBlock = some j → pb vs = some j ∨ w.heap.size ≤ j) ∧ Kept (pgF mb vs) w W ∧ w.heap.size ≤ b7) ∧
      Blk W b7 [.int .i64 (p : Int), .int .i64 (count : Int)] 72)
  case first =>
    go_wp2_with (go_at_call 46; refine TK.out.mono ?_; rintro e w2 ⟨p, np', data', cnt', v3, rfl, hT, hP, h3, hk3⟩)
    go_meet
    have k0 : Kept Nil w2 (w2.alloc (.cells #[.int .i64 (p : Int), .int .i64 (count : Int)] 72)) := (Kept.refl _ _).alloc _
    exact ⟨p, np', data', cnt', v3, w2.heap.size, rfl, ⟨hT, hP.kept k0 (fun h => h) (fun _ _ h => h) (fun _ _ h => h), h3, hk3.alloc _, hk3.size⟩, Blk.new rfl⟩
  case rest =>
    obtain ⟨p, np', data', cnt', v3, b7, rfl, hM, b7b⟩ := hcut
    obtain ⟨hT, hP, h3, hk3, hb7⟩ := hM.out
    have rbl := Blk.keep hk3 HR.out A1.out
    have own := hk3.row HO.out (fun j hj => (A2.out j hj).1)
    have c0 := rbl.cell 0
    have f0 := rbl.frozen 0
    have lrb := rbl.lt
    have z0 := b7b.cell 0
    have z1 := b7b.cell 1
    simp only [List.getElem?_cons_zero, List.getElem?_cons_succ] at c0 z0 z1
    have l7 := b7b.lt
    have pk : p ≤ 60000 := by
      rcases hT with ⟨h1, _, _, _⟩ | ⟨_, h2, _⟩
      · have := HH.out.run_le hk h1; omega
      · omega
    obtain ⟨i0, hi0, hz0, hz1, hz2⟩ := info_parts infoStretch
    have hbn : b7 ≠ rb := by omega
    have own2 : ∀ j, tv.ownBlock = some j → j ≠ rb ∧ j < w.heap.size := fun j hj => ⟨(A2.out j hj).2, (HO.out.lt j hj).2⟩
    have OWN2 := Lib.hid own2
    have HOWN := Lib.hid own
    have HRB := Lib.hid rbl
    have HB7 := Lib.hid b7b
    have hsz := hk3.size
    clear hT hP h3 hk3 own2 rbl b7b
    go_upto_region 2 with fail
    go_cut [] (fun W => ∃ tv', Hid (Got w W mb vs np data b count rb tv m wd nx lf ts p np' data' cnt' v3 tv') ∧ Blk W b7 [.int .i64 (p : Int), .int .i64 (count : Int)] 72)
    case first =>
      go_region_law (first | (refine step_append_lies _ (by rfl) _ _ _ (by rfl) 0 72 i0 _ 2 16 Try.underlying66 hi0 hz0 hz1 hz2 rfl (by omega) tv ts.length (ts.flatMap sv) (by rfl) ((own.alloc _).drew) ⟨wc.heap.size, 0, none⟩ 1 1 [.int .i64 (p : Int), .int .i64 (count : Int)] (by rfl) (by rfl) (World.news_of_block (by exact Blk.drew (Blk.new (by simp)))) (by simp [Value.oneCell']) (by omega) (by unfold maxLen; omega) (by omega) (by simp) (wc.heap.size + 1) (by simp) ?_; intro g cap w4 hown4 hgrow hlies hlt; have kg : Kept (fun k => tv.ownBlock = some k) wc w4 := Kept.grown (Kept.drew (Kept.alloc (Kept.refl _ _) _)) hgrow (fun k hk => .inl hk); have b4 := Blk.keep kg HRB.out (fun h => (OWN2.out _ h).1 rfl); have c34 := b4.cell 0; have f34 := b4.frozen 0; have l34 := b4.lt; simp only [List.getElem?_cons_zero] at c34))
      all_goals (go_wp2_with fail; go_meet)
      all_goals
        obtain ⟨hT, hP, h3, hk3, hb7⟩ := hM.out
        have hgr : g ≠ rb := by
          rcases hlies with h1 | h1
          · exact (OWN2.out g h1).1
          · omega
        have six := HH.out.six
        have e3 : pb ((vs.set 3 v3).set 5 (.int .i64 (cnt' : Int))) = v3.ownBlock := by
          rw [pb_set (by omega)]; unfold pb; rw [List.getD_eq_getElem?_getD, List.getElem?_set, if_pos rfl, if_pos (by omega)]; rfl
        have e4 : nb ((vs.set 3 v3).set 5 (.int .i64 (cnt' : Int))) = nb vs := by rw [nb_set (by omega), nb_set (by omega)]
        have kW : Kept (fun j => j = rb ∨ tv.ownBlock = some j) wc (w4.setCell ⟨rb, 0, none⟩ (.slice (some ⟨g, 0, none⟩) (ts.length + 1) cap)) := (kg.mono (fun j hj => .inr hj)).setIn _ _ (.inl rfl) _
        have nS : ∀ j, pgF mb vs j → ¬ (j = rb ∨ tv.ownBlock = some j) := fun j hj h => h.elim (fun e => A1.out (e ▸ hj)) (fun e => (A2.out j e).1 hj)
        refine ⟨_, ⟨hT, hP.kept kW (nS mb (.inl rfl)) (fun j hj => ?_) (fun j hj => nS j (.inr (.inl (by rw [← e4, hj])))), b4.set 0 _, ?_, h3, ?_, ?_, pk⟩, ?_⟩
        · rw [e3] at hj
          rcases h3 j hj with h1 | h1
          · exact nS j (.inr (.inr h1))
          · rintro (e | e)
            · omega
            · have := (OWN2.out j e).2; omega
        · have e5 : (ts ++ [(p, count)]).flatMap sv = ts.flatMap sv ++ [.int .i64 (p : Int), .int .i64 (count : Int)] := by rw [List.flatMap_append]; rfl
          rw [e5]
          exact (Kept.setIn (S := (· = rb)) (Kept.refl _ w4) rb 0 rfl _).row hown4 (fun j hj e => hgr (by simp only [Value.ownBlock, Option.some.injEq] at hj; omega))
        · intro j hj
          simp only [Value.ownBlock, Option.some.injEq] at hj
          subst hj
          rcases hlies with h1 | h1
          · exact .inl h1
          · refine .inr ⟨by omega, fun e => ?_⟩
            have := hP.lt.2.1 g (by rw [e3, e])
            omega
        · exact (hk3.mono (fun j hj => .inl hj)).next kW (fun j hj => .inl (.inr hj))
        · exact Blk.keep kW HB7.out (fun h => h.elim hbn (fun e => by have := (OWN2.out _ e).2; omega))
    case rest =>
      obtain ⟨tv', hG, b7c⟩ := hcut
      have z0 := b7c.cell 0
      simp only [List.getElem?_cons_zero] at z0
      have l7 := b7c.lt
      clear c0 f0 lrb
      go_wp2
      go_ret
      exact ⟨p, np', data', cnt', v3, tv', by go_num, hG.out⟩

end Go.Proofs.Ytfoacgdahonapaa
