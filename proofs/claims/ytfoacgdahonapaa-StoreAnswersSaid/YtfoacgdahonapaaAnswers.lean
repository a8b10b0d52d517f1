/- The statement on answers, walked: whatever the calls, both stores answer alike. -/
import Derived.Test.YtfoacgdahonapaaBoth
import Derived.Test.YtfoacgdahonapaaMain
namespace Go.Proofs.Ytfoacgdahonapaa
open Go.RowKit Abs
set_option linter.unusedVariables false

set_option maxRecDepth 100000 in
set_option maxHeartbeats 1600000 in
theorem answers_many (w : World) (ao : Option Addr) (n cap : Nat) (hn : n ≤ maxLen) (h60 : ¬ n ≤ 60) :
    Calls Try.prog 3 #[.slice ao n cap] w fun e w' => e = .returned (.bool true) ∧ Kept Nil w w' := by
  have H := few_any ao n cap w hn
  have hd : decide (n ≤ 60) = false := by simp; omega
  rw [hd] at H
  have I := Lib.hid H
  clear H hd
  go_enter Try.func3, Try.ntmps3
  go_wp2_with fail
  refine I.out.mono ?_
  rintro e w' ⟨rfl, rfl⟩
  go_wp2_with fail
  refine (head_any laws _).mono ?_
  rintro e w1 ⟨rfl, k⟩
  go_wp2
  go_ret
  exact ⟨rfl, k⟩

set_option maxRecDepth 100000 in
set_option maxHeartbeats 3200000 in
theorem answers_few (w : World) (ao : Option Addr) (b off cap : Nat) (l : List OpV) (hl : Hid (OpsAt w b off l)) (n : Nat) (hao : Hid (0 < n → ao = some ⟨b, off, none⟩)) (hn : Hid (l.length = n)) (hcap : n ≤ cap) (h60 : n ≤ 60) :
    Calls Try.prog 3 #[.slice ao n cap] w fun e w' => e = .returned (.bool true) ∧ Kept Nil w w' := by
  have H := few_any ao n cap w (by unfold maxLen; omega)
  have hd : decide (n ≤ 60) = true := by simp; omega
  rw [hd] at H
  have I := Lib.hid H
  clear H hd
  go_enter Try.func3, Try.ntmps3
  go_wp2_with fail
  refine I.out.mono ?_
  rintro e w' ⟨rfl, rfl⟩
  go_wp2_with fail
  refine (sa_new _).mono ?_
  rintro e w1 ⟨sp, rfl, F, hSA, hF, k1⟩
  go_wp2_with fail
  refine (ref_new _).mono ?_
  rintro e w2 ⟨rfl, k2⟩
  go_wp2_with fail
  obtain ⟨rb, hrb⟩ : ∃ rb, rb = w2.heap.size := ⟨_, rfl⟩
  have HF : ∀ k, F k → w'.heap.size ≤ k := fun k hk => (hF k hk).elim (fun f => f.elim) id
  have R0 : Hid (AtBoth w' sp ⟨rb, 0, none⟩ 0 (w2.alloc (.cells #[.slice none 0 0, .slice none 0 0, .slice none 0 0, .slice none 0 0, .slice none 0 0, .slice none 0 0, .slice none 0 0, .slice none 0 0] 31))) := by
    have k3 : Kept Nil w1 (w2.alloc (.cells #[.slice none 0 0, .slice none 0 0, .slice none 0 0, .slice none 0 0, .slice none 0 0, .slice none 0 0, .slice none 0 0, .slice none 0 0] 31)) := k2.alloc _
    have hB : Blk (w2.alloc (.cells #[.slice none 0 0, .slice none 0 0, .slice none 0 0, .slice none 0 0, .slice none 0 0, .slice none 0 0, .slice none 0 0, .slice none 0 0] 31)) rb nils 31 := Blk.new hrb
    have hrf : ∀ j, recF rb nils j → j = rb := by
      rintro j (h | ⟨i, v, hv, hj⟩)
      · exact h
      · obtain ⟨hi, rfl⟩ := nils_at hv
        simp [Value.ownBlock] at hj
    have s1 := k1.size
    have s2 := k2.size
    refine ⟨ASt.empty, F, recF rb nils, sa_frame hSA (fun j hj => k3.block j (sa_lt hSA j hj) (fun f => f)), ref_empty hB, fun j hj hg => ?_, HF, fun j hj => ?_, ?_, good_empty, within_empty 0⟩
    · have := sa_lt hSA j hj
      have := hrf j hg
      omega
    · have := hrf j hj; omega
    · exact (k1.next (T := Nil) ⟨k3.os, k3.tape, k3.output, k3.size, k3.block⟩ (fun i hi => hi.elim))
  rw [← hrb]
  clear hrb hSA k1 k2 HF hF
  go_loopw [5] (fun s5 W => ∃ k : Nat, k ≤ n ∧ s5 = .int .i64 (k : Int) ∧ Hid (AtBoth w' sp ⟨rb, 0, none⟩ k W)) (fun s5 _ => n - (intOf s5).toNat)
  case atStart => exact ⟨0, Nat.zero_le _, rfl, R0⟩
  case round =>
    obtain ⟨k, hk, rfl, hB⟩ := hrel
    by_cases hlt : k < n
    · obtain ⟨o, ho⟩ : ∃ o, l[k]? = some o := ⟨l[k]'(by rw [hn.out]; exact hlt), List.getElem?_eq_getElem _⟩
      obtain ⟨ok, a0, a1, a2, a3, a4, a5⟩ := hl.out k o ho
      have eao := hao.out (by omega)
      subst eao
      have hK : Kept Nil w' wr := by
        obtain ⟨_, _, _, _, _, _, _, _, hK, _, _⟩ := hB.out
        exact hK
      have c0 := hK.cell a0 id
      have c1 := hK.cell a1 id
      have c2 := hK.cell a2 id
      have c3 := hK.cell a3 id
      have c4 := hK.cell a4 id
      have c5 := hK.cell a5 id
      obtain ⟨od, hod⟩ : ∃ x, x = o.d := ⟨_, rfl⟩
      obtain ⟨or', hor⟩ : ∃ x, x = o.r := ⟨_, rfl⟩
      obtain ⟨on, hon⟩ : ∃ x, x = o.n := ⟨_, rfl⟩
      obtain ⟨oa, hoa⟩ : ∃ x, x = o.a := ⟨_, rfl⟩
      obtain ⟨of', hof⟩ : ∃ x, x = o.f := ⟨_, rfl⟩
      obtain ⟨ov, hov⟩ : ∃ x, x = o.v := ⟨_, rfl⟩
      have d0 := ok.d0
      have d1 := ok.d1
      have ir := ok.r
      have inn := ok.n
      have ia := ok.a
      have iff' := ok.f
      have iv := ok.v
      rw [← hod] at c0 d0 d1
      rw [← hor] at c1 ir
      rw [← hon] at c2 inn
      rw [← hoa] at c3 ia
      rw [← hof] at c4 iff'
      rw [← hov] at c5 iv
      obtain ⟨s, F, G, hT, hG, hW⟩ := hB.out.start od or' on oa of' ov
      have hW2 := hW.mono (m := 200) (by omega)
      have HT := Lib.hid hT
      have HG := Lib.hid hG
      have HW := Lib.hid hW
      have HW2 := Lib.hid hW2
      have IR := Lib.hid ir
      have IN := Lib.hid inn
      have IA := Lib.hid ia
      have IF := Lib.hid iff'
      have IV := Lib.hid iv
      obtain ⟨m, hm⟩ : ∃ m, m = od.tmod 8 := ⟨_, rfl⟩
      have hm0 : 0 ≤ m ∧ m < 8 := by rw [hm, Int.tmod_eq_emod_of_nonneg d0]; omega
      have hmd : od.tmod 8 = m := hm.symm
      have hmm : od % 8 = m := by rw [hm, Int.tmod_eq_emod_of_nonneg d0]
      have M1 := hm0.1
      have M2 := hm0.2
      clear a0 a1 a2 a3 a4 a5 ok hod hor hon hoa hof hov ho hT hG hW hW2 ir inn ia iff' iv hm hm0 hK
      go_upto_block 2 with fail
      go_cut [] (fun W => ∃ s' F' G', Hid (Two w' W sp ⟨rb, 0, none⟩ wr.heap.size [.int .u8 od, .int .i64 or', .int .i64 on, .int .i64 oa, .int .i64 of', .int .i64 ov] s' s' F' G' ∧ s'.Good ∧ s'.Within (k + 1)))
      case first =>
        have hm8 : m = 0 ∨ m = 1 ∨ m = 2 ∨ m = 3 ∨ m = 4 ∨ m = 5 ∨ m = 6 ∨ m = 7 := by omega
        have q := HT.out.cells
        obtain ⟨q0, q1, q2, q3, q4, q5⟩ := q
        have l6 := HT.out.op.lt
        clear c0 c1 c2 c3 c4 c5 hmd hmm M1 M2
        rcases hm8 with rfl | rfl | rfl | rfl | rfl | rfl | rfl | rfl
        · -- Open
          go_wp2_with (first | (go_at_call 11; refine (sa_opened HT.out.sa HG.out HW2.out).mono ?_; rintro e v1 ⟨rfl, now1⟩; obtain ⟨F1, T1⟩ := HT.out.prog now1; have z1 := T1.cells) | (go_at_call 12; refine (ref_opened T1.ref HG.out HW2.out).mono ?_; rintro e v2 ⟨rfl, now2⟩; obtain ⟨G2, T2⟩ := T1.refn now2))
          go_meet
          exact ⟨_, _, _, T2, good_opened HG.out, within_opened HW.out⟩
        · -- Close
          go_upto_region 14 with fail
          go_cut [49] (fun s49 W => s49 = .bool false ∧ ∃ F' G', Hid (Two w' W sp ⟨rb, 0, none⟩ wr.heap.size [.int .u8 od, .int .i64 or', .int .i64 on, .int .i64 oa, .int .i64 of', .int .i64 ov] (closeS s or') (closeS s or') F' G'))
          case first =>
            have HD := Lib.hid HT.out.drew
            go_region_held3 (fun W => W.cell? ⟨wr.heap.size, 1, none⟩ = some (.int .i64 or'))
              (first | exact TZ.cells.2.1 | exact TP.cells.2.1 | exact TR.cells.2.1 | go_keep | assumption)
              (first | (go_at_call 13; first | (refine (p_close TR.sa HG.out HW2.out or' IR.out).mono ?_; rintro e v1 ⟨rfl, now1⟩; obtain ⟨F2, TZ⟩ := TR.prog now1) | (refine (p_close HD.out.sa HG.out HW2.out or' IR.out).mono ?_; rintro e v1 ⟨rfl, now1⟩; obtain ⟨F1, TP⟩ := HD.out.prog now1)) | (go_at_call 14; first | (refine (r_close TP.ref HG.out HW2.out or' IR.out).mono ?_; rintro e v2 ⟨rfl, now2⟩; obtain ⟨G2, TZ⟩ := TP.refn now2) | (refine (r_close HD.out.ref HG.out HW2.out or' IR.out).mono ?_; rintro e v2 ⟨rfl, now2⟩; obtain ⟨G1, TR⟩ := HD.out.refn now2)))
            all_goals go_wp2_with fail
            all_goals go_meet
            all_goals exact ⟨rfl, _, _, TZ⟩
          case rest =>
            obtain ⟨rfl, F', G', hZ⟩ := hcut
            clear q0 q1 q2 q3 q4 q5 l6
            go_wp2
            go_meet
            exact ⟨_, F', G', hZ.out, good_closeS HG.out _, (within_closeS HW.out _).mono (by omega)⟩
        · -- Alloc
          go_wp2_with (first | (go_at_call 15; refine (p_alloc HT.out.sa HG.out HW2.out or' on IR.out IN.out).mono ?_; rintro e v1 ⟨rfl, now1⟩; obtain ⟨F1, T1⟩ := HT.out.prog now1; obtain ⟨y0, y1, y2, y3, y4, y5⟩ := T1.cells; have l7 := T1.op.lt; have TH1 := Lib.hid T1; clear T1 now1 q0 q1 q2 q3 q4 q5 l6) | (go_at_call 16; refine (r_alloc TH1.out.ref HG.out HW2.out or' on IR.out IN.out).mono ?_; rintro e v2 ⟨rfl, now2⟩; obtain ⟨G2, T2⟩ := TH1.out.refn now2; have TH2 := Lib.hid T2; clear T2 now2 y0 y1 y2 y3 y4 y5 l7))
          go_meet
          exact ⟨_, _, _, TH2.out, good_allocS HG.out _ _, within_allocS HW.out _ _⟩
        · -- Alloc
          go_wp2_with (first | (go_at_call 15; refine (p_alloc HT.out.sa HG.out HW2.out or' on IR.out IN.out).mono ?_; rintro e v1 ⟨rfl, now1⟩; obtain ⟨F1, T1⟩ := HT.out.prog now1; obtain ⟨y0, y1, y2, y3, y4, y5⟩ := T1.cells; have l7 := T1.op.lt; have TH1 := Lib.hid T1; clear T1 now1 q0 q1 q2 q3 q4 q5 l6) | (go_at_call 16; refine (r_alloc TH1.out.ref HG.out HW2.out or' on IR.out IN.out).mono ?_; rintro e v2 ⟨rfl, now2⟩; obtain ⟨G2, T2⟩ := TH1.out.refn now2; have TH2 := Lib.hid T2; clear T2 now2 y0 y1 y2 y3 y4 y5 l7))
          go_meet
          exact ⟨_, _, _, TH2.out, good_allocS HG.out _ _, within_allocS HW.out _ _⟩
        · -- Get
          go_wp2_with (first | (go_at_call 17; refine (sa_got HT.out.sa HG.out HW2.out or' oa of' IR.out IA.out IF.out).mono ?_; rintro e v1 ⟨rfl, k1⟩; have T1 := HT.out.quiet k1; obtain ⟨y0, y1, y2, y3, y4, y5⟩ := T1.cells; have l7 := T1.op.lt; have TH1 := Lib.hid T1; clear T1 k1 q0 q1 q2 q3 q4 q5 l6) | (go_at_call 18; refine (ref_got TH1.out.ref HG.out HW2.out or' oa of' IR.out IA.out IF.out).mono ?_; rintro e v2 ⟨rfl, rfl⟩))
          go_meet
          exact ⟨_, _, _, TH1.out, HG.out, HW.out.mono (by omega)⟩
        · -- Set
          go_upto_region 29 with fail
          go_cut [131] (fun s131 W => s131 = .bool false ∧ ∃ F' G', Hid (Two w' W sp ⟨rb, 0, none⟩ wr.heap.size [.int .u8 od, .int .i64 or', .int .i64 on, .int .i64 oa, .int .i64 of', .int .i64 ov] (s.stored or' oa of' ov) (s.stored or' oa of' ov) F' G'))
          case first =>
            have HD := Lib.hid HT.out.drew
            go_region_held3 (fun W => W.cell? ⟨wr.heap.size, 1, none⟩ = some (.int .i64 or') ∧ W.cell? ⟨wr.heap.size, 3, none⟩ = some (.int .i64 oa) ∧ W.cell? ⟨wr.heap.size, 4, none⟩ = some (.int .i64 of') ∧ W.cell? ⟨wr.heap.size, 5, none⟩ = some (.int .i64 ov))
              (first | exact ⟨TZ.cells.2.1, TZ.cells.2.2.2.1, TZ.cells.2.2.2.2.1, TZ.cells.2.2.2.2.2⟩ | exact ⟨TP.cells.2.1, TP.cells.2.2.2.1, TP.cells.2.2.2.2.1, TP.cells.2.2.2.2.2⟩ | exact ⟨TR.cells.2.1, TR.cells.2.2.2.1, TR.cells.2.2.2.2.1, TR.cells.2.2.2.2.2⟩ | go_keep | assumption)
              (first | (go_at_call 19; first | (refine (sa_stored TR.sa HG.out HW2.out or' oa of' ov IR.out IA.out IF.out IV.out).mono ?_; rintro e v1 ⟨rfl, now1⟩; obtain ⟨F2, TZ⟩ := TR.prog now1) | (refine (sa_stored HD.out.sa HG.out HW2.out or' oa of' ov IR.out IA.out IF.out IV.out).mono ?_; rintro e v1 ⟨rfl, now1⟩; obtain ⟨F1, TP⟩ := HD.out.prog now1)) | (go_at_call 20; first | (refine (ref_stored TP.ref HG.out HW2.out or' oa of' ov IR.out IA.out IF.out IV.out).mono ?_; rintro e v2 ⟨rfl, now2⟩; obtain ⟨G2, TZ⟩ := TP.refn now2) | (refine (ref_stored HD.out.ref HG.out HW2.out or' oa of' ov IR.out IA.out IF.out IV.out).mono ?_; rintro e v2 ⟨rfl, now2⟩; obtain ⟨G1, TR⟩ := HD.out.refn now2)))
            all_goals go_wp2_with fail
            all_goals go_meet
            all_goals exact ⟨rfl, _, _, TZ⟩
          case rest =>
            obtain ⟨rfl, F', G', hZ⟩ := hcut
            clear q0 q1 q2 q3 q4 q5 l6
            go_wp2
            go_meet
            exact ⟨_, F', G', hZ.out, good_stored HG.out _ _ _ _, (within_stored HW.out _ _ _ _).mono (by omega)⟩
        · -- Set
          go_upto_region 29 with fail
          go_cut [131] (fun s131 W => s131 = .bool false ∧ ∃ F' G', Hid (Two w' W sp ⟨rb, 0, none⟩ wr.heap.size [.int .u8 od, .int .i64 or', .int .i64 on, .int .i64 oa, .int .i64 of', .int .i64 ov] (s.stored or' oa of' ov) (s.stored or' oa of' ov) F' G'))
          case first =>
            have HD := Lib.hid HT.out.drew
            go_region_held3 (fun W => W.cell? ⟨wr.heap.size, 1, none⟩ = some (.int .i64 or') ∧ W.cell? ⟨wr.heap.size, 3, none⟩ = some (.int .i64 oa) ∧ W.cell? ⟨wr.heap.size, 4, none⟩ = some (.int .i64 of') ∧ W.cell? ⟨wr.heap.size, 5, none⟩ = some (.int .i64 ov))
              (first | exact ⟨TZ.cells.2.1, TZ.cells.2.2.2.1, TZ.cells.2.2.2.2.1, TZ.cells.2.2.2.2.2⟩ | exact ⟨TP.cells.2.1, TP.cells.2.2.2.1, TP.cells.2.2.2.2.1, TP.cells.2.2.2.2.2⟩ | exact ⟨TR.cells.2.1, TR.cells.2.2.2.1, TR.cells.2.2.2.2.1, TR.cells.2.2.2.2.2⟩ | go_keep | assumption)
              (first | (go_at_call 19; first | (refine (sa_stored TR.sa HG.out HW2.out or' oa of' ov IR.out IA.out IF.out IV.out).mono ?_; rintro e v1 ⟨rfl, now1⟩; obtain ⟨F2, TZ⟩ := TR.prog now1) | (refine (sa_stored HD.out.sa HG.out HW2.out or' oa of' ov IR.out IA.out IF.out IV.out).mono ?_; rintro e v1 ⟨rfl, now1⟩; obtain ⟨F1, TP⟩ := HD.out.prog now1)) | (go_at_call 20; first | (refine (ref_stored TP.ref HG.out HW2.out or' oa of' ov IR.out IA.out IF.out IV.out).mono ?_; rintro e v2 ⟨rfl, now2⟩; obtain ⟨G2, TZ⟩ := TP.refn now2) | (refine (ref_stored HD.out.ref HG.out HW2.out or' oa of' ov IR.out IA.out IF.out IV.out).mono ?_; rintro e v2 ⟨rfl, now2⟩; obtain ⟨G1, TR⟩ := HD.out.refn now2)))
            all_goals go_wp2_with fail
            all_goals go_meet
            all_goals exact ⟨rfl, _, _, TZ⟩
          case rest =>
            obtain ⟨rfl, F', G', hZ⟩ := hcut
            clear q0 q1 q2 q3 q4 q5 l6
            go_wp2
            go_meet
            exact ⟨_, F', G', hZ.out, good_stored HG.out _ _ _ _, (within_stored HW.out _ _ _ _).mono (by omega)⟩
        · -- nothing
          go_wp2
          go_meet
          exact ⟨_, _, _, HT.out, HG.out, HW.out.mono (by omega)⟩
      case rest =>
        obtain ⟨s', F', G', hR⟩ := hcut
        clear c0 c1 c2 c3 c4 c5 hmd hmm M1 M2
        have Z0 := Lib.hid hR.out.1
        have GD := Lib.hid hR.out.2.1
        have WD := Lib.hid hR.out.2.2
        have W2 := Lib.hid (hR.out.2.2.mono (m := 200) (by omega))
        go_wp2_with fail
        refine (quiet.words Z0.out.sa GD.out W2.out).mono ?_
        rintro e v1 ⟨rfl, m1, hv1⟩
        have Z1 := Lib.hid (Z0.out.drewn hv1)
        clear hv1
        go_wp2_with fail
        refine (ref_words Z1.out.ref GD.out W2.out).mono ?_
        rintro e v2 ⟨rfl, m2, hv2⟩
        have Z2 := Lib.hid (Z1.out.drewn hv2)
        clear hv2
        go_wp2_with fail
        refine (quiet.pages Z2.out.sa GD.out W2.out).mono ?_
        rintro e v3 ⟨rfl, m3, hv3⟩
        have Z3 := Lib.hid (Z2.out.drewn hv3)
        clear hv3
        go_wp2_with fail
        refine (ref_pages Z3.out.ref GD.out W2.out).mono ?_
        rintro e v4 ⟨rfl, hv4⟩
        have Z4 := Lib.hid (Z3.out.drewn (m := 0) hv4)
        clear hv4
        go_wp2_with fail
        refine (quiet.free Z4.out.sa GD.out W2.out).mono ?_
        rintro e v5 ⟨rfl, m5, hv5⟩
        have Z5 := Lib.hid (Z4.out.drewn hv5)
        clear hv5
        go_wp2_with fail
        refine (ref_free Z5.out.ref GD.out W2.out).mono ?_
        rintro e v6 ⟨rfl, m6, hv6⟩
        have Z6 := Lib.hid (Z5.out.drewn hv6)
        clear hv6
        go_wp2
        go_roundw
        case rel => exact ⟨k + 1, by omega, by go_num, Z6.out.both GD.out WD.out⟩
        case measure => simp [intOf]; omega
    · go_wp2_with fail
      refine (head_any laws _).mono ?_
      rintro e w9 ⟨rfl, k9⟩
      go_wp2
      go_ret
      obtain ⟨_, _, _, _, _, _, _, _, hK, _, _⟩ := hB.out
      exact ⟨rfl, hK.trans k9⟩

end Go.Proofs.Ytfoacgdahonapaa
