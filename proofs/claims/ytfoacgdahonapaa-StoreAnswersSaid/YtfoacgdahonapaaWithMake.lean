/- The user makes a cell. -/
import Derived.Test.YtfoacgdahonapaaUser
import Derived.Deep.RegionLaw
namespace Go.Proofs.Ytfoacgdahonapaa
open Go.RowKit Abs
set_option linter.unusedVariables false

theorem infoCell : (Try.prog.info? 50).map (fun i => (i.zero, i.size, i.bytes)) = some (some (.agg #[.int .i64 0, .int .i64 0, .slice none 0 0]), 3, 40) := by kernel_rfl
theorem infoI64 : (Try.prog.info? 2).map (fun i => (i.zero, i.size, i.bytes)) = some (some (.int .i64 0), 1, 8) := by kernel_rfl

theorem make_fields (p : Nat) (hp : p < 4200) (w : World) :
    (Instr.makeSlice 29 (.int .i64 (1 + (p : Int))) (.int .i64 (1 + (p : Int)))).run Try.prog w =
      .ok (.slice (some ⟨w.heap.size, 0, none⟩) (1 + p) (1 + p)) (w.alloc (.cells (List.replicate (1 + p) (Value.int .i64 0)).toArray 2)) := by
  obtain ⟨i0, hi0, hz0, hz1, hz2⟩ := info_parts infoI64
  have h := run_make (P := Try.prog) w 29 2 i0 (.int .i64 0) Try.underlying29 hi0 hz0 .i64 .i64 (1 + (p : Int)) (1 + (p : Int)) (by omega) (Int.le_refl _) (by rw [hz2]; omega) (by omega)
  rw [h, hz1]
  have e : (1 + (p : Int)).toNat = 1 + p := by omega
  rw [e, Nat.mul_one]
  have e2 : madeCells (Value.int .i64 0).cells (1 + p) = (List.replicate (1 + p) (Value.int .i64 0)).toArray := by
    rw [← toList_madeCells_one]; rfl
  rw [e2]

/-- What a user is behind a cell's making: w2 the world behind the store's call. -/
structure Grew (w2 w' : World) (ub : Nat) (sp : Addr) (many : Nat) (ov cv : Value) (cn : Nat) (xs : List Value) (large : Bool) (reg addr : Int) (n fb g cap : Nat) : Prop where
  kept : Kept (fun k => k = ub ∨ cv.ownBlock = some k) w2 w'
  blk : Blk w' ub [.pointer (some sp), .int .i64 (many : Int), ov, .slice (some ⟨g, 0, none⟩) (cn + 1) cap, .bool large] 45
  row : w'.ownsRow 0 50 3 (.slice (some ⟨g, 0, none⟩) (cn + 1) cap) (cn + 1) (xs ++ [.int .i64 reg, .int .i64 addr, .slice (some ⟨fb, 0, none⟩) n n])
  fields : Blk w' fb (List.replicate n (Value.int .i64 0)) 2
  lies : cv.ownBlock = some g ∨ w2.heap.size ≤ g
  fresh : w2.heap.size ≤ fb
  diff : fb ≠ g

set_option maxRecDepth 100000 in
set_option maxHeartbeats 1600000 in
theorem with_make_core (w : World) (ub : Nat) (sp : Addr) (many : Nat) (ob : Nat) (on oc : Nat) (ca : Option Addr) (cn cc : Nat) (large : Bool) (d r wd a f v : Int)
   (hd0 : 0 ≤ d) (hd1 : d ≤ 255) (hr : I64 r) (hwd : I64 wd)
   (hd : 2 ≤ d % 8) (hd' : d % 8 < 4) (ho : 0 < on) (ho2 : on ≤ 200) (hcn2 : cn ≤ 200)
   (hb : Blk w ub [.pointer (some sp), .int .i64 (many : Int), .slice (some ⟨ob, 0, none⟩) on oc, .slice ca cn cc, .bool large] 45)
   (hob : ob < w.heap.size) (hobu : ob ≠ ub)
   (xs : List Value) (hown : w.ownsRow 0 50 3 (.slice ca cn cc) cn xs) (hcu : Hid ((Value.slice ca cn cc).ownBlock ≠ some ub))
   (at' : Nat) (hat : Hid (around r on = at')) (hat1 : at' < on) (reg : Int) (hat2 : w.cell? ⟨ob, at', none⟩ = some (.int .i64 reg)) 
   (p : Nat) (hp : Hid (around wd 40 = p)) (hp1 : p < 40) (addr : Int)
   (F : Nat → Prop) (hFu : ¬ F ub) (hFc : Hid (∀ k, (Value.slice ca cn cc).ownBlock = some k → ¬ F k)) (R : World → Prop)
   (G : Hid (∀ W, Kept (· = ub) w W → Calls Try.prog 15 #[.pointer (some sp), .int .i64 reg, .int .i64 (1 + (p : Int))] W fun e w' => e = .returned (.tuple #[.int .i64 addr, .int .i64 0]) ∧ Kept F W w' ∧ R w')) :
   Calls Try.prog 27 #[.pointer (some ⟨ub, 0, none⟩), .agg #[.int .u8 d, .int .i64 r, .int .i64 wd, .int .i64 a, .int .i64 f, .int .i64 v]] w
     (fun e w' => e = .returned (.bool true) ∧ ∃ w1 w2 fb g cap, Kept (· = ub) w w1 ∧ Kept F w1 w2 ∧ R w2 ∧
       Grew w2 w' ub sp many (.slice (some ⟨ob, 0, none⟩) on oc) (.slice ca cn cc) cn xs (large || decide (16 < 1 + p)) reg addr (1 + p) fb g cap) := by
  have e0 : (d % 8 == 0) = false := by rw [beq_eq_false_iff_ne]; omega
  have e1 : ((on : Int) == 0) = false := by rw [beq_eq_false_iff_ne]; omega
  have e2 : (d % 8 == 1) = false := by rw [beq_eq_false_iff_ne]; omega
  have e4 : decide (d % 8 < 4) = true := by simp; omega
  have h2 : w.cell? ⟨ub, 2, none⟩ = some (.slice (some ⟨ob, 0, none⟩) on oc) := by rw [hb.cell]; rfl
  have h4 : w.cell? ⟨ub, 4, none⟩ = some (.bool large) := by rw [hb.cell]; rfl
  have f4 := hb.frozen 4
  have lu := hb.lt
  clear hd hd'
  go_enter Try.func27, Try.ntmps27
  go_wp2_with fail
  go_quiet ((go_at_call 39; exact Calls.quiet_of_same (around_at _ _ at' _ hr (by omega) (by omega) hat)))
  go_upto_if 156 with (go_at_call 39; refine (around_at _ _ p _ hwd (by omega) (by omega) hp).mono ?_; rintro e w' ⟨rfl, rfl⟩)
  go_cut [] (fun W => Kept (· = ub) w W ∧ Blk W ub [.pointer (some sp), .int .i64 (many : Int), .slice (some ⟨ob, 0, none⟩) on oc, .slice ca cn cc, .bool (large || decide (16 < 1 + p))] 45)
  case first =>
    go_wp2
    · go_meet
      have hlt : (16 : Int) < 1 + (p : Int) := by assumption
      have e : (large || decide (16 < 1 + p)) = true := by simp; omega
      rw [e]
      exact ⟨Kept.setIn (S := (· = ub)) (Kept.drewN (Kept.alloc (Kept.refl _ _) _) _) _ _ rfl _, Blk.set (Blk.drewN (Blk.alloc hb _) _) 4 (.bool true)⟩
    · go_meet
      have hge : (1 : Int) + (p : Int) ≤ 16 := by assumption
      have e : (large || decide (16 < 1 + p)) = large := by simp; omega
      rw [e]
      exact ⟨Kept.drewN (Kept.alloc (Kept.refl _ _) _) _, Blk.drewN (Blk.alloc hb _) _⟩
  case rest =>
    obtain ⟨hk1, b1⟩ := hcut
    have c0 := b1.cell 0
    simp only [List.getElem?_cons_zero] at c0
    have r1 := hk1.row hown (fun k hk e => hcu.out (by rw [hk, e]))
    have l1 := b1.lt
    clear h2 h4 f4 hat2
    obtain ⟨w1, hw1⟩ : ∃ x, x = wc := ⟨_, rfl⟩
    have Hw1 := Lib.hid hw1
    clear hw1
    go_upto_region 24 with fail
    go_cut [12, 13] (fun s12 s13 W => s12 = .int .i64 addr ∧ s13 = .int .i64 0 ∧ Kept F w1 W ∧ R W)
    case first =>
      go_wp2_with (go_at_call 15; refine (G.out _ hk1).mono ?_; rintro e w' ⟨rfl, hk, hR⟩)
      go_meet
      exact ⟨rfl, rfl, by rw [Hw1.out]; exact hk, hR⟩
    case rest =>
      obtain ⟨rfl, rfl, hk2, hR⟩ := hcut
      rw [← Hw1.out] at b1 r1
      have b2 := Blk.keep hk2 b1 hFu
      have r2 := hk2.row r1 hFc.out
      have c3 := b2.cell 3
      simp only [List.getElem?_cons_zero, List.getElem?_cons_succ] at c3
      have l2 := b2.lt
      have hmk := make_fields p (by omega)
      obtain ⟨i0, hi0, hz0, hz1, hz2⟩ := info_parts infoCell
      go_upto_region 25 with fail
      go_cut [] (fun W => ∃ fb g cap, Grew wc W ub sp many (.slice (some ⟨ob, 0, none⟩) on oc) (.slice ca cn cc) cn xs (large || decide (16 < 1 + p)) reg addr (1 + p) fb g cap)
      case first =>
        go_region_law (first | (refine step_append_lies _ (by rfl) _ _ _ (by rfl) 0 50 i0 _ 3 40 Try.underlying43 hi0 hz0 hz1 hz2 rfl (by omega) (.slice ca cn cc) cn xs (by rfl) (((r2.alloc _).alloc _).drew) ⟨wc.heap.size + 1, 0, none⟩ 1 1 [.int .i64 reg, .int .i64 addr, .slice (some ⟨wc.heap.size, 0, none⟩) (1 + p) (1 + p)] (by rfl) (by rfl) (World.news_of_block (by exact Blk.drew (Blk.new (by simp)))) (by simp [Value.oneCell']) (by omega) (by unfold maxLen; omega) (by omega) (by simp) (wc.heap.size + 1 + 1) (by simp) ?_; intro g cap w4 hown4 hgrow hlies hlt; have kg : Kept (fun k => (Value.slice ca cn cc).ownBlock = some k) wc w4 := Kept.grown (Kept.drew (Kept.alloc (Kept.alloc (Kept.refl _ _) _) _)) hgrow (fun k hk => .inl hk); have b4 := Blk.keep kg b2 hcu.out; have c34 := b4.cell 3; have f34 := b4.frozen 3; simp only [List.getElem?_cons_zero, List.getElem?_cons_succ] at c34))
        all_goals (go_wp2_with fail; go_meet)
        all_goals
          have hold : ∀ k, (Value.slice ca cn cc).ownBlock = some k → k < wc.heap.size := fun k hk => (r2.lt k hk).2
          have kz := Kept.grown (Kept.refl (fun k => (Value.slice ca cn cc).ownBlock = some k) _) hgrow (fun k hk => .inl hk)
          have z4 : Blk w4 wc.heap.size (List.replicate (1 + p) (Value.int .i64 0)) 2 := Blk.keep kz (Blk.drew (Blk.alloc (Blk.new rfl) _)) (fun h => by have := hold _ h; omega)
          have hgu : g ≠ ub := by
            rcases hlies with h | h
            · intro e; subst e; exact hcu.out h
            · omega
          refine ⟨wc.heap.size, g, cap, ⟨?_, ?_, ?_, ?_, ?_, ?_, ?_⟩⟩
          · have k3 : Kept (fun k => k = ub ∨ (Value.slice ca cn cc).ownBlock = some k) wc w4 := kg.mono (fun k h => .inr h)
            exact k3.setCell (.inl (.inl rfl)) _
          · exact b4.set 3 _
          · exact ((Kept.refl (· = ub) w4).setIn ub 3 rfl _).row hown4 (fun k hk e => hgu (by simpa [Value.ownBlock, e] using hk))
          · exact Blk.keep ((Kept.refl (· = ub) w4).setIn ub 3 rfl _) z4 (by omega)
          · rcases hlies with h | h
            · exact .inl h
            · right; omega
          · omega
          · rcases hlies with h | h
            · have := hold _ h; omega
            · omega
      case rest =>
        obtain ⟨fb, g, cap, hgrew⟩ := hcut
        go_wp2
        go_ret
        exact ⟨rfl, w1, _, fb, g, cap, by rw [Hw1.out]; exact hk1, hk2, hR, hgrew⟩
end Go.Proofs.Ytfoacgdahonapaa
