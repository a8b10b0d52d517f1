/- 'room' of the program: where a cell comes. -/
import Derived.Test.YtfoacgdahonapaaMemTake
namespace Go.Proofs.Ytfoacgdahonapaa
open Go.RowKit Abs Tree
set_option linter.unusedVariables false

theorem Got.set {w w' : World} {mb : Nat} {vs : List Value} {np : Nat} {data : List Int} {b : Nat → Bool} {count rb : Nat} {tv m wd nx lf : Value} {ts : List (Nat × Nat)} {p np' : Nat} {data' : List Int} {cnt' : Nat} {v3 tv' : Value}
    (h : Got w w' mb vs np data b count rb tv m wd nx lf ts p np' data' cnt' v3 tv') (six : vs.length = 6) (a1 : ¬ pgF mb vs rb) (a2 : ∀ j, tv.ownBlock = some j → ¬ pgF mb vs j ∧ j ≠ rb) (hrb : rb < w.heap.size) {nx2 lf2 u : Value} {i : Nat}
    (hi : [tv', m, wd, nx, lf].set i u = [tv', m, wd, nx2, lf2]) : Got w (w'.setCell ⟨rb, i, none⟩ u) mb vs np data b count rb tv m wd nx2 lf2 ts p np' data' cnt' v3 tv' := by
  have ks : Kept (· = rb) w' (w'.setCell ⟨rb, i, none⟩ u) := Kept.setIn (S := (· = rb)) (Kept.refl _ _) _ _ rfl _
  have e3 : pb ((vs.set 3 v3).set 5 (.int .i64 (cnt' : Int))) = v3.ownBlock := by
    rw [pb_set (by omega)]; unfold pb; rw [List.getD_eq_getElem?_getD, List.getElem?_set, if_pos rfl, if_pos (by omega)]; rfl
  have e4 : nb ((vs.set 3 v3).set 5 (.int .i64 (cnt' : Int))) = nb vs := by rw [nb_set (by omega), nb_set (by omega)]
  refine ⟨h.took, h.pg.kept ks (fun e => a1 (.inl e.symm)) (fun j hj e => ?_) (fun j hj e => a1 (.inr (.inl (by rw [← e4, hj, e])))), ?_, ?_, h.new3, h.newT, h.kept.setIn _ _ (.inr (.inl rfl)) _, h.small⟩
  · rw [e3] at hj
    rcases h.new3 j hj with h1 | h1
    · exact a1 (.inr (.inr (by rw [h1, e])))
    · omega
  · rw [← hi]; exact h.blk.set i u
  · refine ks.row h.own (fun j hj e => ?_)
    rcases h.newT j hj with h1 | h1
    · exact (a2 j h1).2 e
    · have := h1.1; omega

set_option maxRecDepth 100000 in
set_option maxHeartbeats 600000 in
theorem st_room_big {w : World} {mb : Nat} {vs : List Value} {np : Nat} {data : List Int} {b : Nat → Bool} {cnt n rb : Nat} {tv m wd nx lf : Value} {ts : List (Nat × Nat)} (h : Pg w mb vs np data b cnt) (hn : 16 < n) (hn2 : n ≤ 4097) (hk2 : np + 300 ≤ 60000)
    (hr : Blk w rb [tv, m, wd, nx, lf] 68) (ho : w.ownsRow 0 72 2 tv ts.length (ts.flatMap sv)) (hts : ts.length ≤ 100000)
    (a1 : ¬ pgF mb vs rb) (a2 : ∀ j, tv.ownBlock = some j → ¬ pgF mb vs j ∧ j ≠ rb) :
    Calls Try.prog 35 #[.pointer (some ⟨mb, 0, none⟩), .pointer (some ⟨rb, 0, none⟩), .int .i64 (n : Int)] w fun e w' => ∃ p np' data' cnt' v3 tv', e = .returned (.int .i64 ((16 * p : Nat) : Int)) ∧ Got w w' mb vs np data b ((n + 15) / 16) rb tv m wd nx lf ts p np' data' cnt' v3 tv' := by
  have tk := st_memtake h (count := (n + 15) / 16) (by omega) (by omega) hr ho hts a1 a2
  obtain ⟨k, hk⟩ : ∃ k, k = (n + 15) / 16 := ⟨_, rfl⟩
  rw [← hk] at tk ⊢
  have t1 : ((n : Int) + 16 - 1).tdiv 16 = (k : Int) := by rw [Int.tdiv_eq_ediv_of_nonneg (by omega)]; omega
  have d1 : decide ((16 : Int) < (n : Int)) = true := by simp; omega
  have kb : k ≤ 300 := by omega
  have TK := Lib.hid tk
  clear tk h hr ho a1 a2 hn hk
  go_enter Try.func35, Try.ntmps35
  go_wp2_with (go_at_call 41; refine TK.out.mono ?_; rintro e w2 ⟨p, np', data', cnt', v3, tv', rfl, hG⟩)
  go_ret
  exact ⟨p, np', data', cnt', v3, tv', rfl, hG⟩

set_option maxRecDepth 100000 in
set_option maxHeartbeats 600000 in
theorem st_room_new {w : World} {mb : Nat} {vs : List Value} {np : Nat} {data : List Int} {b : Nat → Bool} {cnt n rb nx lf : Nat} {tv m wd : Value} {ts : List (Nat × Nat)} (h : Pg w mb vs np data b cnt) (hn : n ≤ 16) (hlf : lf < n) (hk2 : np + 300 ≤ 60000)
    (hr : Blk w rb [tv, m, wd, .int .i64 (nx : Int), .int .i64 (lf : Int)] 68) (ho : w.ownsRow 0 72 2 tv ts.length (ts.flatMap sv)) (hts : ts.length ≤ 100000)
    (a1 : ¬ pgF mb vs rb) (a2 : ∀ j, tv.ownBlock = some j → ¬ pgF mb vs j ∧ j ≠ rb) :
    Calls Try.prog 35 #[.pointer (some ⟨mb, 0, none⟩), .pointer (some ⟨rb, 0, none⟩), .int .i64 (n : Int)] w fun e w' => ∃ p np' data' cnt' v3 tv', e = .returned (.int .i64 ((16 * p : Nat) : Int)) ∧
      Got w w' mb vs np data b 1 rb tv m wd (.int .i64 ((16 * p + n : Nat) : Int)) (.int .i64 ((16 - n : Nat) : Int)) ts p np' data' cnt' v3 tv' := by
  have tk := st_memtake h (count := 1) (by omega) (by omega) hr ho hts a1 a2
  have c4 := hr.cell 4
  have lr := hr.lt
  simp only [List.getElem?_cons_zero, List.getElem?_cons_succ] at c4
  have d1 : decide ((16 : Int) < (n : Int)) = false := by simp; omega
  have d2 : decide ((lf : Int) < (n : Int)) = true := by simp; omega
  have d3 : decide (lf < n) = true := by simp; omega
  have TK := Lib.hid tk
  have A1 := Lib.hid a1
  have A2 := Lib.hid a2
  have SIX := Lib.hid h.six
  clear tk h hr ho a1 a2 hlf
  go_enter Try.func35, Try.ntmps35
  go_wp2_with (go_at_call 41; refine TK.out.mono ?_; rintro e w2 ⟨p, np', data', cnt', v3, tv', rfl, hG⟩; have q3 := hG.blk.cell 3; have q4 := hG.blk.cell 4; have f3 := hG.blk.frozen 3; have f4 := hG.blk.frozen 4; have l2 := hG.blk.lt; simp only [List.getElem?_cons_zero, List.getElem?_cons_succ] at q3 q4; have ps := hG.small; have HGG := Lib.hid hG; clear hG)
  go_ret
  have G1 := HGG.out.set SIX.out A1.out A2.out lr (nx2 := .int .i64 (16 * (p : Int))) (lf2 := .int .i64 (lf : Int)) (u := .int .i64 (16 * (p : Int))) (i := 3) rfl
  have G2 := G1.set SIX.out A1.out A2.out lr (nx2 := .int .i64 (16 * (p : Int))) (lf2 := .int .i64 16) (u := .int .i64 16) (i := 4) rfl
  have G3 := G2.set SIX.out A1.out A2.out lr (nx2 := .int .i64 (16 * (p : Int) + (n : Int))) (lf2 := .int .i64 16) (u := .int .i64 (16 * (p : Int) + (n : Int))) (i := 3) rfl
  have G4 := G3.set SIX.out A1.out A2.out lr (nx2 := .int .i64 (16 * (p : Int) + (n : Int))) (lf2 := .int .i64 (16 - (n : Int))) (u := .int .i64 (16 - (n : Int))) (i := 4) rfl
  have e1 : ((16 * p + n : Nat) : Int) = 16 * (p : Int) + (n : Int) := by omega
  have e2 : ((16 - n : Nat) : Int) = 16 - (n : Int) := by omega
  have e3 : ((16 * p : Nat) : Int) = 16 * (p : Int) := by omega
  refine ⟨p, np', data', cnt', v3, tv', by rw [e3]; rfl, ?_⟩
  rw [e1, e2]
  exact G4

set_option maxRecDepth 100000 in
set_option maxHeartbeats 600000 in
theorem st_room_fits {w : World} {mb n rb nx lf : Nat} {tv m wd : Value} (hn : n ≤ lf) (hlf : lf ≤ 16) (hnx : nx ≤ 2000000)
    (hr : Blk w rb [tv, m, wd, .int .i64 (nx : Int), .int .i64 (lf : Int)] 68) :
    Calls Try.prog 35 #[.pointer (some ⟨mb, 0, none⟩), .pointer (some ⟨rb, 0, none⟩), .int .i64 (n : Int)] w fun e w' => e = .returned (.int .i64 (nx : Int)) ∧
      Blk w' rb [tv, m, wd, .int .i64 ((nx + n : Nat) : Int), .int .i64 ((lf - n : Nat) : Int)] 68 ∧ Kept (· = rb) w w' := by
  have c4 := hr.cell 4
  have c3 := hr.cell 3
  have f4 := hr.frozen 4
  have f3 := hr.frozen 3
  have lr := hr.lt
  simp only [List.getElem?_cons_zero, List.getElem?_cons_succ] at c4 c3
  have d1 : decide ((16 : Int) < (n : Int)) = false := by simp; omega
  have d2 : decide ((lf : Int) < (n : Int)) = false := by simp; omega
  have d3 : decide (lf < n) = false := by simp; omega
  have HR := Lib.hid hr
  have e1 : ((lf - n : Nat) : Int) = (lf : Int) - n := by omega
  have e2 : ((nx + n : Nat) : Int) = (nx : Int) + n := by omega
  rw [e1, e2]
  clear hr e1 e2
  go_enter Try.func35, Try.ntmps35
  go_wp2
  go_ret
  exact ⟨rfl, (HR.out.set 3 _).set 4 _, Kept.setIn (S := (· = rb)) (Kept.setIn (S := (· = rb)) (Kept.refl _ _) _ _ rfl _) _ _ rfl _⟩

end Go.Proofs.Ytfoacgdahonapaa
