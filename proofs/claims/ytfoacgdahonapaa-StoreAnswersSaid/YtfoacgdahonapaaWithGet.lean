/- The user reads a field. -/
import Derived.Test.YtfoacgdahonapaaUser
namespace Go.Proofs.Ytfoacgdahonapaa
open Go.RowKit Abs
set_option linter.unusedVariables false

set_option maxRecDepth 100000 in
set_option maxHeartbeats 1600000 in
theorem with_get_core (w : World) (ub : Nat) (sp : Addr) (many : Nat) (ob cb : Nat) (on oc cn cc : Nat) (large : Bool) (d r wd a f v : Int)
   (hd0 : 0 ≤ d) (hd1 : d ≤ 255) (hr : I64 r) (ha : I64 a) (hf : I64 f)
   (hd : d % 8 = 4) (ho : 0 < on) (ho2 : on ≤ 200) (hcn : 0 < cn) (hcn2 : cn ≤ 200)
   (hlt : ub < w.heap.size) (hob : ob < w.heap.size) (hcb : cb < w.heap.size)
   (h0 : w.cell? ⟨ub, 0, none⟩ = some (.pointer (some sp)))
   (h2 : w.cell? ⟨ub, 2, none⟩ = some (.slice (some ⟨ob, 0, none⟩) on oc))
   (h3 : w.cell? ⟨ub, 3, none⟩ = some (.slice (some ⟨cb, 0, none⟩) cn cc))
   (at' : Nat) (hat : Hid (around r on = at')) (hat1 : at' < on) (reg : Int) (hat2 : w.cell? ⟨ob, at', none⟩ = some (.int .i64 reg)) 
   (ci : Nat) (hci : Hid (around a cn = ci)) (hci1 : ci < cn)
   (creg caddr z : Int) (fb fn : Nat) (fi : Nat) (hfi : Hid (around f fn = fi)) (hfi1 : fi < fn) (hfn : fn ≤ 4097) (hfb : fb < w.heap.size)
   (hc0 : w.cell? ⟨cb, ci * 3, none⟩ = some (.int .i64 creg))
   (hc1 : w.cell? ⟨cb, ci * 3 + 1, none⟩ = some (.int .i64 caddr))
   (hc2 : w.cell? ⟨cb, ci * 3 + 2, none⟩ = some (.slice (some ⟨fb, 0, none⟩) fn fn))
   (hz : w.cell? ⟨fb, fi, none⟩ = some (.int .i64 z))
   (G : Hid (∀ W, Kept Nil w W → Calls Try.prog 17 #[.pointer (some sp), .int .i64 creg, .int .i64 caddr, .int .i64 (fi : Int)] W fun e w' => e = .returned (.tuple #[.int .i64 z, .int .i64 0]) ∧ Kept Nil W w')) :
   Calls Try.prog 27 #[.pointer (some ⟨ub, 0, none⟩), .agg #[.int .u8 d, .int .i64 r, .int .i64 wd, .int .i64 a, .int .i64 f, .int .i64 v]] w (fun e w' => e = .returned (.bool true) ∧ Kept Nil w w') := by
  have e0 : (d % 8 == 0) = false := by rw [beq_eq_false_iff_ne]; omega
  have e1 : ((on : Int) == 0) = false := by rw [beq_eq_false_iff_ne]; omega
  have e3 : ((cn : Int) == 0) = false := by rw [beq_eq_false_iff_ne]; omega
  have e2 : (d % 8 == 1) = false := by rw [beq_eq_false_iff_ne]; omega
  have e4 : decide (d % 8 < 4) = false := by simp; omega
  have e5 : decide (d % 8 < 5) = true := by simp; omega
  clear hd
  go_enter Try.func27, Try.ntmps27
  go_wp2_with fail
  go_quiet ((go_at_call 39; exact Calls.quiet_of_same (around_at _ _ at' _ hr (by omega) (by omega) hat)))
  go_upto_region 29 with fail
  go_cut [14] (fun s14 W => ∃ g : Nat, s14 = .pointer (some ⟨g, 0, none⟩) ∧ Kept Nil w W ∧ w.heap.size ≤ g ∧ Blk W g [.int .i64 creg, .int .i64 caddr, .slice (some ⟨fb, 0, none⟩) fn fn] 50 ∧ Blk W w.heap.size [.int .u8 d, .int .i64 r, .int .i64 wd, .int .i64 a, .int .i64 f, .int .i64 v] 34)
  case first =>
    go_region_held3 (fun W => W.cell? ⟨ub, 3, none⟩ = some (.slice (some ⟨cb, 0, none⟩) cn cc) ∧ W.cell? ⟨w.heap.size, 3, none⟩ = some (.int .i64 a) ∧
     W.cell? ⟨cb, ci * 3, none⟩ = some (.int .i64 creg) ∧ W.cell? ⟨cb, ci * 3 + 1, none⟩ = some (.int .i64 caddr) ∧ W.cell? ⟨cb, ci * 3 + 2, none⟩ = some (.slice (some ⟨fb, 0, none⟩) fn fn))
     (go_keep)
     (first | (go_at_call 39; refine (around_at _ _ ci _ ha (by omega) (by omega) hci).mono ?_; rintro e w' ⟨rfl, rfl⟩))
    all_goals (go_wp2_with fail; go_meet)
    all_goals exact ⟨_, rfl, (by repeat (first | exact Kept.refl _ _ | apply Kept.drewN | apply Kept.drew | apply Kept.alloc)), by omega,
      (by repeat (first | exact Blk.new (by simp) | apply Blk.drewN | apply Blk.drew | apply Blk.alloc)), (by repeat (first | exact Blk.new (by simp) | apply Blk.drewN | apply Blk.drew | apply Blk.alloc))⟩
  case rest =>
    obtain ⟨g, rfl, hk1, hg, bg, bo⟩ := hcut
    have q0 := hk1.cell h0 id
    have qz := hk1.cell hz id
    have o0 := bo.cell 0
    have o4 := bo.cell 4
    have g0 := bg.cell 0
    have g1 := bg.cell 1
    have g2 := bg.cell 2
    simp only [List.getElem?_cons_zero, List.getElem?_cons_succ] at o0 o4 g0 g1 g2
    have lu := World.block_lt_of_cell? _ _ q0
    have lz := World.block_lt_of_cell? _ _ qz
    have lg := bg.lt
    have lo := bo.lt
    simp only at lu lz
    clear h0 h2 h3 hat2 hc0 hc1 hc2 hz
    go_wp2_with (first | (go_at_call 39; refine (around_at _ _ fi _ hf (by omega) (by omega) hfi).mono ?_; rintro e w' ⟨rfl, rfl⟩))
    go_region_held3 (fun W => W.cell? ⟨ub, 0, none⟩ = some (.pointer (some sp)) ∧ W.cell? ⟨g, 0, none⟩ = some (.int .i64 creg) ∧ W.cell? ⟨g, 1, none⟩ = some (.int .i64 caddr))
     (first | go_keep | (go_split_ands; exact ⟨hk.cell (by assumption) id, hk.cell (by assumption) id, hk.cell (by assumption) id⟩))
     (first | (go_at_call 17; refine (G.out _ (by repeat (first | exact hk1 | apply Kept.drewN | apply Kept.drew | apply Kept.alloc))).mono ?_; rintro e w1 ⟨rfl, hk⟩))
    rename_i hHeld
    clear hHeld
    have g2c := hk.cell (by exact g2) id
    have qzc := hk.cell (by exact qz) id
    go_wp2
    go_ret
    exact ⟨rfl, (Kept.drew hk1).trans hk⟩
end Go.Proofs.Ytfoacgdahonapaa
