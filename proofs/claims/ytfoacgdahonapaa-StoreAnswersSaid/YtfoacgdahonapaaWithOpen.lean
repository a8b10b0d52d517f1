/- The user opens a region. -/
import Derived.Test.YtfoacgdahonapaaUser
namespace Go.Proofs.Ytfoacgdahonapaa
open Go.RowKit Abs
set_option linter.unusedVariables false

theorem infoInt : (Try.prog.info? 3).map (fun i => (i.zero, i.size, i.bytes)) = some (some (.int .i64 0), 1, 8) := by kernel_rfl

/-- What a user is behind a region's opening: w2 the world behind the store's call. -/
structure Opened (w2 w' : World) (ub : Nat) (sp : Addr) (many : Nat) (ov cv : Value) (opens : List Nat) (large : Bool) (g cap : Nat) : Prop where
  kept : Kept (fun k => k = ub ∨ ov.ownBlock = some k) w2 w'
  blk : Blk w' ub [.pointer (some sp), .int .i64 ((many : Int) + 1), .slice (some ⟨g, 0, none⟩) (opens.length + 1) cap, cv, .bool large] 45
  row : w'.ownsRow 0 3 1 (.slice (some ⟨g, 0, none⟩) (opens.length + 1) cap) (opens.length + 1) (opens.map (fun n : Nat => .int .i64 n) ++ [.int .i64 many])
  lies : ov.ownBlock = some g ∨ w2.heap.size ≤ g

set_option maxRecDepth 100000 in
set_option maxHeartbeats 1600000 in
theorem with_open_core (w : World) (ub : Nat) (sp : Addr) (many : Nat) (cv : Value) (oa : Option Addr) (oc : Nat) (opens : List Nat) (large : Bool) (d r wd a f v : Int)
   (hd0 : 0 ≤ d) (hd1 : d ≤ 255)
   (hd : d % 8 = 0 ∨ opens.length = 0) (hol : opens.length ≤ 200) (hm : many ≤ 200)
   (hb : Blk w ub [.pointer (some sp), .int .i64 (many : Int), .slice oa opens.length oc, cv, .bool large] 45)
   (hown : w.ownsRow 0 3 1 (.slice oa opens.length oc) opens.length (opens.map fun n : Nat => .int .i64 n)) (hou : Hid ((Value.slice oa opens.length oc).ownBlock ≠ some ub))
   (F : Nat → Prop) (hFu : ¬ F ub) (hFo : Hid (∀ k, (Value.slice oa opens.length oc).ownBlock = some k → ¬ F k)) (R : World → Prop)
   (G : Hid (∀ W, Kept Nil w W → Calls Try.prog 11 #[.pointer (some sp)] W fun e w' => e = .returned (.int .i64 (many : Int)) ∧ Kept F W w' ∧ R w')) :
   Calls Try.prog 27 #[.pointer (some ⟨ub, 0, none⟩), .agg #[.int .u8 d, .int .i64 r, .int .i64 wd, .int .i64 a, .int .i64 f, .int .i64 v]] w
     (fun e w' => e = .returned (.bool true) ∧ ∃ w1 w2 g cap, Kept Nil w w1 ∧ Kept F w1 w2 ∧ R w2 ∧ Opened w2 w' ub sp many (.slice oa opens.length oc) cv opens large g cap) := by
  obtain ⟨i0, hi0, hz0, hz1, hz2⟩ := info_parts infoInt
  have h2 : w.cell? ⟨ub, 2, none⟩ = some (.slice oa opens.length oc) := by rw [hb.cell]; rfl
  have h0 : w.cell? ⟨ub, 0, none⟩ = some (.pointer (some sp)) := by rw [hb.cell]; rfl
  have lu := hb.lt
  have hd2 : d % 8 = 0 ∨ (¬ d % 8 = 0 ∧ opens.length = 0) := by omega
  rcases hd2 with hd8 | ⟨hd8, hn⟩
  · have e0 : (d % 8 == 0) = true := by rw [beq_iff_eq]; exact hd8
    clear hd hd8
    go_enter Try.func27, Try.ntmps27
    go_upto_region 2 with fail
    go_cut [5] (fun s5 W => s5 = .int .i64 (many : Int) ∧ ∃ w1, Kept Nil w w1 ∧ Kept F w1 W ∧ R W)
    case first =>
      go_wp2_with (first | (go_at_call 11; refine (G.out _ (by repeat (first | exact Kept.refl _ _ | apply Kept.drewN | apply Kept.drew | apply Kept.alloc))).mono ?_; rintro e w1 ⟨rfl, hk, hR⟩))
      go_meet
      exact ⟨rfl, _, (by repeat (first | exact Kept.refl _ _ | apply Kept.drewN | apply Kept.drew | apply Kept.alloc)), hk, hR⟩
    case rest =>
      obtain ⟨rfl, w1, hk1, hk2, hR⟩ := hcut
      have bw := Blk.keep hk2 (Blk.keep hk1 hb id) hFu
      have rw' := hk2.row (hk1.row hown (fun _ _ => id)) hFo.out
      have c1 := bw.cell 1
      have c2 := bw.cell 2
      have f1 := bw.frozen 1
      have f2 := bw.frozen 2
      simp only [List.getElem?_cons_zero, List.getElem?_cons_succ] at c1 c2
      have lw := bw.lt
      clear h0 h2 lu
      go_wp2_with (at_builtin; go_loud (refine wpList_append_lies _ rfl _ _ 28 rfl 0 3 i0 (.int .i64 0) 1 8 Try.underlying28 hi0 hz0 hz1 hz2 rfl (by decide) _ _ _ rfl (rw'.alloc _) ⟨wc.heap.size, 0, none⟩ 1 1 [.int .i64 (many : Int)] rfl rfl (World.news_of_block (heap_alloc_new _ _)) (by simp [Value.oneCell']) (by decide) (by unfold maxLen; omega) (by omega) (Nat.zero_le _) _ rfl ?_))
      intro g cap w2 hown2 hgrow hlies hlt
      have kg := ((Kept.refl (fun k => (Value.slice oa opens.length oc).ownBlock = some k) wc).alloc _).grown hgrow (fun k hk => .inl hk)
      have b2 := Blk.keep kg bw hou.out
      clear hgrow c1 c2 f1 f2 lw
      have c1 := b2.cell 1
      have c2 := b2.cell 2
      have f1 := b2.frozen 1
      have f2 := b2.frozen 2
      simp only [List.getElem?_cons_zero, List.getElem?_cons_succ] at c1 c2
      have lw := b2.lt
      go_wp2
      go_ret
      have lwc := bw.lt
      have hgu : g ≠ ub := by
        rcases hlies with h | h
        · intro e; subst e; exact hou.out h
        · omega
      refine ⟨rfl, w1, wc, g, cap, hk1, hk2, hR, ⟨?_, ?_, ?_, ?_⟩⟩
      · have k3 : Kept (fun k => k = ub ∨ (Value.slice oa opens.length oc).ownBlock = some k) wc w2 := kg.mono (fun k h => .inr h)
        exact (k3.setCell (.inl (.inl rfl)) _).setCell (.inl (.inl rfl)) _
      · exact (b2.set 2 _).set 1 _
      · exact (((Kept.refl (· = ub) w2).setCell (.inl rfl) _).setCell (.inl rfl) _).row hown2 (fun k hk e => hgu (by simpa [Value.ownBlock, e] using hk))
      · rcases hlies with h | h
        · exact .inl h
        · right; omega
  · have e0 : (d % 8 == 0) = false := by rw [beq_eq_false_iff_ne]; exact hd8
    have e1 : ((opens.length : Int) == 0) = true := by rw [beq_iff_eq]; omega
    clear hd hd8 hn
    go_enter Try.func27, Try.ntmps27
    go_upto_region 2 with fail
    go_cut [5] (fun s5 W => s5 = .int .i64 (many : Int) ∧ ∃ w1, Kept Nil w w1 ∧ Kept F w1 W ∧ R W)
    case first =>
      go_wp2_with (first | (go_at_call 11; refine (G.out _ (by repeat (first | exact Kept.refl _ _ | apply Kept.drewN | apply Kept.drew | apply Kept.alloc))).mono ?_; rintro e w1 ⟨rfl, hk, hR⟩))
      go_meet
      exact ⟨rfl, _, (by repeat (first | exact Kept.refl _ _ | apply Kept.drewN | apply Kept.drew | apply Kept.alloc)), hk, hR⟩
    case rest =>
      obtain ⟨rfl, w1, hk1, hk2, hR⟩ := hcut
      have bw := Blk.keep hk2 (Blk.keep hk1 hb id) hFu
      have rw' := hk2.row (hk1.row hown (fun _ _ => id)) hFo.out
      have c1 := bw.cell 1
      have c2 := bw.cell 2
      have f1 := bw.frozen 1
      have f2 := bw.frozen 2
      simp only [List.getElem?_cons_zero, List.getElem?_cons_succ] at c1 c2
      have lw := bw.lt
      clear h0 h2 lu
      go_wp2_with (at_builtin; go_loud (refine wpList_append_lies _ rfl _ _ 28 rfl 0 3 i0 (.int .i64 0) 1 8 Try.underlying28 hi0 hz0 hz1 hz2 rfl (by decide) _ _ _ rfl (rw'.alloc _) ⟨wc.heap.size, 0, none⟩ 1 1 [.int .i64 (many : Int)] rfl rfl (World.news_of_block (heap_alloc_new _ _)) (by simp [Value.oneCell']) (by decide) (by unfold maxLen; omega) (by omega) (Nat.zero_le _) _ rfl ?_))
      intro g cap w2 hown2 hgrow hlies hlt
      have kg := ((Kept.refl (fun k => (Value.slice oa opens.length oc).ownBlock = some k) wc).alloc _).grown hgrow (fun k hk => .inl hk)
      have b2 := Blk.keep kg bw hou.out
      clear hgrow c1 c2 f1 f2 lw
      have c1 := b2.cell 1
      have c2 := b2.cell 2
      have f1 := b2.frozen 1
      have f2 := b2.frozen 2
      simp only [List.getElem?_cons_zero, List.getElem?_cons_succ] at c1 c2
      have lw := b2.lt
      go_wp2
      go_ret
      have lwc := bw.lt
      have hgu : g ≠ ub := by
        rcases hlies with h | h
        · intro e; subst e; exact hou.out h
        · omega
      refine ⟨rfl, w1, wc, g, cap, hk1, hk2, hR, ⟨?_, ?_, ?_, ?_⟩⟩
      · have k3 : Kept (fun k => k = ub ∨ (Value.slice oa opens.length oc).ownBlock = some k) wc w2 := kg.mono (fun k h => .inr h)
        exact (k3.setCell (.inl (.inl rfl)) _).setCell (.inl (.inl rfl)) _
      · exact (b2.set 2 _).set 1 _
      · exact (((Kept.refl (· = ub) w2).setCell (.inl rfl) _).setCell (.inl rfl) _).row hown2 (fun k hk e => hgu (by simpa [Value.ownBlock, e] using hk))
      · rcases hlies with h | h
        · exact .inl h
        · right; omega
end Go.Proofs.Ytfoacgdahonapaa
