/- The reference begins a region. -/
import Derived.Test.YtfoacgdahonapaaRef
namespace Go.Proofs.Ytfoacgdahonapaa
open Go.RowKit Abs
set_option linter.unusedVariables false

theorem rInfoBool : (Try.prog.info? 4).map (fun i => (i.zero, i.size, i.bytes)) = some (some (.bool false), 1, 1) := by kernel_rfl
theorem rInfoInt : (Try.prog.info? 3).map (fun i => (i.zero, i.size, i.bytes)) = some (some (.int .i64 0), 1, 8) := by kernel_rfl
theorem rInfoI64 : (Try.prog.info? 2).map (fun i => (i.zero, i.size, i.bytes)) = some (some (.int .i64 0), 1, 8) := by kernel_rfl

theorem opened_rows {s : ASt} (g : s.Good) : openedL s.opened = openedL s ++ [.bool true] ∧ curL s.opened = curL s ++ [.int .i64 (-1)] ∧ fillL s.opened = fillL s ++ [.int .i64 0] := by
  refine ⟨?_, ?_, ?_⟩
  · unfold openedL
    simp only [ASt.opened, List.range_succ, List.map_append, List.map_cons, List.map_nil]
    congr 1
    · refine List.map_congr_left fun r hr => ?_
      have : r ≠ s.many := by have := List.mem_range.1 hr; omega
      simp [this]
    · simp
  · unfold curL
    simp only [ASt.opened, List.range_succ, List.map_append, List.map_cons, List.map_nil]
    congr 1
    · refine List.map_congr_left fun r hr => ?_
      have : r ≠ s.many := by have := List.mem_range.1 hr; omega
      simp [curI, this]
    · simp [curI]
  · unfold fillL
    simp only [ASt.opened, List.range_succ, List.map_append, List.map_cons, List.map_nil]
    congr 1
    · refine List.map_congr_left fun r hr => ?_
      have : r ≠ s.many := by have := List.mem_range.1 hr; omega
      simp [fillI, this]
    · simp [fillI]

theorem RefOk.opened {s : ASt} {all : List Ent} {data : List Int} (h : RefOk s all data) : RefOk s.opened all data := by
  refine ⟨?_, h.ever, fun x hx => by have := h.regs x hx; simp only [ASt.opened]; omega, h.size, h.dlen, h.vals⟩
  show List.filter _ all = s.cells.map _
  rw [← h.live]
  refine List.filter_congr fun x hx => ?_
  have : x.1 ≠ s.many := by have := h.regs x hx; omega
  simp [ASt.opened, this]

set_option maxRecDepth 100000 in
set_option maxHeartbeats 1600000 in
theorem ref_opened {w : World} {sp : Addr} {s : ASt} {F : Nat → Prop} (h : RefAt w sp s F) (hG : s.Good) (hW : s.Within 200) :
    Calls Try.prog 12 #[.pointer (some sp)] w fun e w' => e = .returned (.int .i64 s.many) ∧ Now RefAt w F sp s.opened w' := by
  obtain ⟨sb, vs, all, data, rfl, rfl, hl, hR, hO⟩ := h
  obtain ⟨a0, c0, v0, q0, o0⟩ := hR.at 0 (e := 4) (xs := openedL s) rfl
  obtain ⟨a1, c1, v1, q1, _⟩ := hR.at 1 (e := 3) (xs := curL s) rfl
  obtain ⟨a2, c2, v2, q2, _⟩ := hR.at 2 (e := 3) (xs := fillL s) rfl
  have l0 : (openedL s).length = s.many := by simp [openedL]
  have l1 : (curL s).length = s.many := by simp [curL]
  have l2 : (fillL s).length = s.many := by simp [fillL]
  rw [l0] at q0 o0 v0
  rw [l1] at q1 v1
  rw [l2] at q2 v2
  have lb := hR.blk.lt
  have hmy := hW.many
  obtain ⟨n, hn⟩ : ∃ n, n = s.many := ⟨_, rfl⟩
  rw [← hn] at q0 o0 q1 q2 v0 v1 v2 hmy ⊢
  have HN := Lib.hid hn
  have L0 := Lib.hid l0
  have L1 := Lib.hid l1
  have L2 := Lib.hid l2
  have V0 := Lib.hid v0
  have V1 := Lib.hid v1
  have V2 := Lib.hid v2
  clear hn l0 l1 l2 v0 v1 v2
  obtain ⟨ib, hib, hb0, hb1, hb2⟩ := info_parts rInfoBool
  obtain ⟨ii, hii, hz0, hz1, hz2⟩ := info_parts rInfoInt
  go_enter Try.func12, Try.ntmps12
  go_wp2_with (at_builtin; go_loud (refine wpList_append_lies _ rfl (.tmp 7) (.tmp 8) 27 rfl 0 4 ib (.bool false) 1 1 Try.underlying27 hib hb0 hb1 hb2 rfl (by decide) _ _ _ rfl (o0.alloc _) ⟨w.heap.size, 0, none⟩ 1 1 [.bool true] rfl rfl (World.news_of_block (heap_alloc_new _ _)) (by simp [Value.oneCell']) (by decide) (by unfold maxLen; omega) (by omega) (Nat.zero_le _) _ rfl ?_))
  intro g0 k0 w2 own2 gr2 li2 lt2
  obtain ⟨R1, K1, F1, B2⟩ := hR.appended (i := 0) V0.out rfl ((Kept.refl Nil w).alloc _) own2 (by simp only [List.length_append, List.length_singleton, L0.out, ← HN.out]) gr2 (li2.imp id (fun e => by first | omega | (simp at e; omega)))
  have z0 := B2.cell 0
  have z1 := B2.cell 1
  have z2 := B2.cell 2
  rw [V0.out] at z0
  rw [V1.out] at z1
  rw [V2.out] at z2
  have zf := B2.frozen 0
  have zl := B2.lt
  have W1 : (vs.set 0 (.slice (some ⟨g0, 0, none⟩) (n + 1) k0))[1]? = some (.slice a1 n c1) := by rw [List.getElem?_set, if_neg (by omega)]; exact V1.out
  have o1 := R1.own 1 _ 3 (curL s) W1 rfl
  rw [L1.out, ← HN.out] at o1
  have V1' := Lib.hid W1
  clear W1
  clear gr2 li2 own2 q0 q1 q2 o0 lb
  go_wp2_with (at_builtin; go_loud (refine wpList_append_lies _ rfl (.tmp 16) (.tmp 17) 28 rfl 0 3 ii (.int .i64 0) 1 8 Try.underlying28 hii hz0 hz1 hz2 rfl (by decide) _ _ _ rfl (o1.alloc _) ⟨w2.heap.size, 0, none⟩ 1 1 [.int .i64 (-1)] rfl rfl (World.news_of_block (by exact Blk.new (by simp))) (by simp [Value.oneCell']) (by decide) (by unfold maxLen; omega) (by omega) (Nat.zero_le _) _ rfl ?_))
  intro g1 k1 w3 own3 gr3 li3 lt3
  obtain ⟨R2, K2, F2, B3⟩ := R1.appended (i := 1) V1'.out rfl ((Kept.refl Nil _).alloc _) own3 (by simp only [List.length_append, List.length_singleton, L1.out, ← HN.out]) gr3 (li3.imp id (fun e => by first | omega | (simp at e ⊢; omega)))
  have W2 : ((vs.set 0 (.slice (some ⟨g0, 0, none⟩) (n + 1) k0)).set 1 (.slice (some ⟨g1, 0, none⟩) (n + 1) k1))[2]? = some (.slice a2 n c2) := by rw [List.getElem?_set, if_neg (by omega), List.getElem?_set, if_neg (by omega)]; exact V2.out
  have y1 := B3.cell 1
  have y2 := B3.cell 2
  have y0 := B3.cell 0
  rw [V1'.out] at y1
  rw [List.getElem?_set, if_neg (by omega), V2.out] at y2
  rw [List.getElem?_set, if_pos rfl, if_pos (by rw [hl]; omega)] at y0
  have yf := B3.frozen 1
  have yl := B3.lt
  have o2 := R2.own 2 _ 3 (fillL s) W2 rfl
  rw [L2.out, ← HN.out] at o2
  have V2' := Lib.hid W2
  clear W2
  clear gr3 li3 own3 z0 z1 z2 zf zl o1
  go_wp2_with (at_builtin; go_loud (refine wpList_append_lies _ rfl (.tmp 25) (.tmp 26) 28 rfl 0 3 ii (.int .i64 0) 1 8 Try.underlying28 hii hz0 hz1 hz2 rfl (by decide) _ _ _ rfl (o2.alloc _) ⟨w3.heap.size, 0, none⟩ 1 1 [.int .i64 0] rfl rfl (World.news_of_block (by exact Blk.new (by simp))) (by simp [Value.oneCell']) (by decide) (by unfold maxLen; omega) (by omega) (Nat.zero_le _) _ rfl ?_))
  intro g2 k2 w4 own4 gr4 li4 lt4
  obtain ⟨R3, K3, F3, B4⟩ := R2.appended (i := 2) V2'.out rfl ((Kept.refl Nil _).alloc _) own4 (by simp only [List.length_append, List.length_singleton, L2.out, ← HN.out]) gr4 (li4.imp id (fun e => by first | omega | (simp at e ⊢; omega)))
  have x0 := B4.cell 0
  have x2 := B4.cell 2
  rw [V2'.out] at x2
  rw [List.getElem?_set, if_neg (by omega), List.getElem?_set, if_pos rfl, if_pos (by rw [hl]; omega)] at x0
  have xf := B4.frozen 2
  have xl := B4.lt
  clear gr4 li4 own4 y0 y1 y2 yf yl o2
  go_wp2
  go_ret
  have R3' : Recs (w4.setCell ⟨sb, 2, none⟩ (.slice (some ⟨g2, 0, none⟩) (n + 1) k2)) sb (((vs.set 0 (.slice (some ⟨g0, 0, none⟩) (n + 1) k0)).set 1 (.slice (some ⟨g1, 0, none⟩) (n + 1) k1)).set 2 (.slice (some ⟨g2, 0, none⟩) (n + 1) k2)) (refRows s.opened all data) 31 := by
    obtain ⟨e0, e1, e2⟩ := opened_rows hG
    have er : (((refRows s all data).set 0 (4, openedL s ++ [Value.bool true])).set 1 (3, curL s ++ [Value.int .i64 (-1)])).set 2 (3, fillL s ++ [Value.int .i64 0]) = refRows s.opened all data := by
      unfold refRows
      rw [e0, e1, e2]; rfl
    rw [← er]
    exact R3
  refine ⟨?_, _, ⟨sb, _, all, data, rfl, rfl, ?_, R3', hO.opened⟩, ?_, ?_⟩
  · rfl
  · simp only [List.length_set]; exact hl
  · intro j hj
    rcases F3 j hj with h1 | h1
    · rcases F2 j h1 with h2 | h2
      · exact F1 j h2
      · have := K1.size; exact .inr (by omega)
    · have := K1.size; have := K2.size; exact .inr (by omega)
  · refine (K1.next K2 F1).next K3 (fun j hj => ?_)
    rcases F2 j hj with h2 | h2
    · exact F1 j h2
    · have := K1.size; exact .inr (by omega)
end Go.Proofs.Ytfoacgdahonapaa
