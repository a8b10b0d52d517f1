/- The small sequence of calls that every statement asks; how many calls are few. -/
import Derived.Test.YtfoacgdahonapaaUser
namespace Go.Proofs.Ytfoacgdahonapaa
open Go.RowKit Abs
set_option linter.unusedVariables false

theorem few_any (ao : Option Addr) (n cap : Nat) (w : World) (hn : n ≤ maxLen) :
    Calls Try.prog 7 #[.slice ao n cap] w fun e w' => e = .returned (.bool (decide (n ≤ 60))) ∧ w' = w := by
  unfold maxLen at hn
  by_cases h : n ≤ 60
  · have e1 : decide ((n : Int) ≤ 60) = true := by simp; omega
    have e2 : decide (n ≤ 60) = true := by simp; omega
    rw [e2]
    clear h e2
    go_enter Try.func7, Try.ntmps7
    go_wp2
    go_ret
    exact ⟨rfl, rfl⟩
  · have e1 : decide ((n : Int) ≤ 60) = false := by simp; omega
    have e2 : decide (n ≤ 60) = false := by simp; omega
    rw [e2]
    clear h e2
    go_enter Try.func7, Try.ntmps7
    go_wp2
    go_ret
    exact ⟨rfl, rfl⟩

def hs2 : ASt := ASt.empty.opened.opened
def hs3 : ASt := hs2.made 0 3
def hs4 : ASt := hs3.made 1 2
def hs5 : ASt := hs4.stored 1 16 1 7
def hs6 : ASt := hs5.closed 0

theorem good2 : hs2.Good := good_opened (good_opened good_empty)
theorem good3 : hs3.Good := good_made good2 (by decide) (by decide)
theorem good4 : hs4.Good := good_made good3 (by decide) (by decide)
theorem good5 : hs5.Good := good_stored good4 _ _ _ _
theorem good6 : hs6.Good := good_closed good5 _
theorem win2 : hs2.Within 2 := within_opened (within_opened (within_empty 0))
theorem win3 : hs3.Within 3 := within_made win2 0 (by decide) (by decide)
theorem win4 : hs4.Within 4 := within_made win3 1 (by decide) (by decide)
theorem win5 : hs5.Within 4 := within_stored win4 _ _ _ _
theorem win6 : hs6.Within 4 := within_closed win5 _
theorem place2 : (hs2.place 0 3).1 = 0 := by decide
theorem place3 : (hs3.place 1 2).1 = 16 := by decide
theorem ask4 : hs4.asked 1 16 1 = 0 := by decide
theorem ask5 : hs5.asked 1 16 1 = 0 := by decide
theorem got5 : hs5.got 1 16 1 = 7 := by decide
theorem pages5 : hs5.pages = 2 := by decide
theorem free6 : hs6.free = 1 := by decide
theorem words6 : hs6.words = 2 := by decide

theorem i64_small (n : Int) (h : 0 ≤ n) (h2 : n ≤ 1000) : I64 n := ⟨by omega, by omega⟩

set_option maxHeartbeats 800000 in
theorem head_any {SA : World → Addr → ASt → (Nat → Prop) → Prop} (L : StoreLaws SA) (w : World) :
    Calls Try.prog 8 #[] w fun e w' => e = .returned (.bool true) ∧ Kept Nil w w' := by
  go_enter Try.func8, Try.ntmps8
  go_wp2_with fail
  refine (L.new _).mono ?_
  rintro e w1 ⟨sp, rfl, F1, h1, n1, k1⟩
  have H2 : Calls Try.prog 11 #[.pointer (some sp)] w1 fun e w' => e = .returned (.int .i64 0) ∧ Now SA w1 F1 sp ASt.empty.opened w' := L.opened h1 good_empty (within_empty 200)
  have I2 := Lib.hid H2
  have N1 := Lib.hid n1
  clear n1 H2
  go_wp2_with fail
  refine I2.out.mono ?_
  rintro e w2 ⟨rfl, F2, h2, n2, k2⟩
  have H3 : Calls Try.prog 11 #[.pointer (some sp)] w2 fun e w' => e = .returned (.int .i64 1) ∧ Now SA w2 F2 sp hs2 w' := L.opened h2 (good_opened good_empty) (within_opened (within_empty 199))
  have I3 := Lib.hid H3
  have N2 := Lib.hid n2
  clear n2 H3 I2
  go_wp2_with fail
  refine I3.out.mono ?_
  rintro e w3 ⟨rfl, F3, h3, n3, k3⟩
  have H4 := L.made h3 good2 (win2.mono (by omega)) 0 3 (by decide) (by omega) (by omega)
  rw [place2] at H4
  have I4 : Hid (Calls Try.prog 15 #[.pointer (some sp), .int .i64 0, .int .i64 3] w3 fun e w' => e = .returned (.tuple #[.int .i64 0, .int .i64 0]) ∧ Now SA w3 F3 sp hs3 w') := H4
  have N3 := Lib.hid n3
  clear n3 H4 I3
  go_wp2_with fail
  refine I4.out.mono ?_
  rintro e w4 ⟨rfl, F4, h4, n4, k4⟩
  have H5 := L.made h4 good3 (win3.mono (by omega)) 1 2 (by decide) (by omega) (by omega)
  rw [place3] at H5
  have I5 : Hid (Calls Try.prog 15 #[.pointer (some sp), .int .i64 1, .int .i64 2] w4 fun e w' => e = .returned (.tuple #[.int .i64 16, .int .i64 0]) ∧ Now SA w4 F4 sp hs4 w') := H5
  have N4 := Lib.hid n4
  clear n4 H5 I4
  go_wp2_with fail
  refine I5.out.mono ?_
  rintro e w5 ⟨rfl, F5, h5, n5, k5⟩
  have H6 := L.stored h5 good4 (win4.mono (by omega)) 1 16 1 7 (i64_small _ (by omega) (by omega)) (i64_small _ (by omega) (by omega)) (i64_small _ (by omega) (by omega)) (i64_small _ (by omega) (by omega))
  rw [ask4] at H6
  have I6 : Hid (Calls Try.prog 19 #[.pointer (some sp), .int .i64 1, .int .i64 16, .int .i64 1, .int .i64 7] w5 fun e w' => e = .returned (.int .i64 0) ∧ Now SA w5 F5 sp hs5 w') := H6
  have N5 := Lib.hid n5
  clear n5 H6 I5
  go_wp2_with fail
  refine I6.out.mono ?_
  rintro e w6 ⟨rfl, F6, h6, n6, k6⟩
  have H7 := L.pages h6 good5 (win5.mono (by omega))
  rw [pages5] at H7
  have I7 : Hid (Calls Try.prog 23 #[.pointer (some sp)] w6 fun e w' => e = .returned (.int .i64 2) ∧ Kept Nil w6 w') := H7
  have N6 := Lib.hid n6
  clear n6 H7 I6
  go_wp2_with fail
  refine I7.out.mono ?_
  rintro e w7 ⟨rfl, k7⟩
  have h7 := L.frame h6 (fun k hk => k7.block k (L.lt h6 k hk) id)
  have H8 := L.got h7 good5 (win5.mono (by omega)) 1 16 1 (i64_small _ (by omega) (by omega)) (i64_small _ (by omega) (by omega)) (i64_small _ (by omega) (by omega))
  rw [got5, ask5] at H8
  have I8 := Lib.hid H8
  clear H8 I7
  go_wp2_with fail
  refine I8.out.mono ?_
  rintro e w8 ⟨rfl, k8⟩
  have h8 := L.frame h7 (fun k hk => k8.block k (L.lt h7 k hk) id)
  have H9 := L.closed h8 good5 (win5.mono (by omega)) 0 (by decide)
  have I9 : Hid (Calls Try.prog 13 #[.pointer (some sp), .int .i64 0] w8 fun e w' => e = .returned (.int .i64 0) ∧ Now SA w8 F6 sp hs6 w') := H9
  clear H9 I8
  go_wp2_with fail
  refine I9.out.mono ?_
  rintro e w9 ⟨rfl, F9, h9, n9, k9⟩
  have H10 := L.free h9 good6 (win6.mono (by omega))
  rw [free6] at H10
  have I10 : Hid (Calls Try.prog 25 #[.pointer (some sp)] w9 fun e w' => e = .returned (.int .i64 1) ∧ Kept Nil w9 w') := H10
  have N9 := Lib.hid n9
  clear n9 H10 I9
  go_wp2_with fail
  refine I10.out.mono ?_
  rintro e w10 ⟨rfl, k10⟩
  have h10 := L.frame h9 (fun k hk => k10.block k (L.lt h9 k hk) id)
  have H11 := L.words h10 good6 (win6.mono (by omega))
  rw [words6] at H11
  have I11 : Hid (Calls Try.prog 21 #[.pointer (some sp)] w10 fun e w' => e = .returned (.int .i64 2) ∧ Kept Nil w10 w') := H11
  clear H11 I10
  go_wp2_with fail
  refine I11.out.mono ?_
  rintro e w11 ⟨rfl, k11⟩
  go_wp2
  go_ret
  have sz1 : w.heap.size ≤ w1.heap.size := k1.size
  have f1 : ∀ k, F1 k → w.heap.size ≤ k := fun k hk => (N1.out k hk).elim (fun f => f.elim) id
  have f2 : ∀ k, F2 k → w.heap.size ≤ k := fun k hk => (N2.out k hk).elim (f1 k) (fun e => by have := k1.size; omega)
  have s2 : w.heap.size ≤ w2.heap.size := Nat.le_trans sz1 k2.size
  have f3 : ∀ k, F3 k → w.heap.size ≤ k := fun k hk => (N3.out k hk).elim (f2 k) (fun e => by omega)
  have s3 : w.heap.size ≤ w3.heap.size := Nat.le_trans s2 k3.size
  have f4 : ∀ k, F4 k → w.heap.size ≤ k := fun k hk => (N4.out k hk).elim (f3 k) (fun e => by omega)
  have s4 : w.heap.size ≤ w4.heap.size := Nat.le_trans s3 k4.size
  have f5 : ∀ k, F5 k → w.heap.size ≤ k := fun k hk => (N5.out k hk).elim (f4 k) (fun e => by omega)
  have s5 : w.heap.size ≤ w5.heap.size := Nat.le_trans s4 k5.size
  have f6 : ∀ k, F6 k → w.heap.size ≤ k := fun k hk => (N6.out k hk).elim (f5 k) (fun e => by omega)
  refine ⟨rfl, ?_⟩
  exact ((((((((((k1.next k2 (fun i hi => .inr (f1 i hi))).next k3 (fun i hi => .inr (f2 i hi))).next k4 (fun i hi => .inr (f3 i hi))).next k5 (fun i hi => .inr (f4 i hi))).next k6 (fun i hi => .inr (f5 i hi))).trans k7).trans k8).next k9 (fun i hi => .inr (f6 i hi))).trans k10).trans k11)
end Go.Proofs.Ytfoacgdahonapaa
