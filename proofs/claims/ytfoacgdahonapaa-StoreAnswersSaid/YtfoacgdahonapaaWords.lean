/- 'words' and 'take' of the program's pages. -/
import Derived.Test.YtfoacgdahonapaaPages
namespace Go.Proofs.Ytfoacgdahonapaa
open Go.RowKit Abs Tree
set_option linter.unusedVariables false

set_option maxRecDepth 100000 in
set_option maxHeartbeats 1600000 in
theorem st_words {w : World} {mb g np cap first count : Nat} (c3 : w.cell? ⟨mb, 3, none⟩ = some (.slice (some ⟨g, 0, none⟩) np cap)) (hnp : np ≤ 60000) (hf : first < np * 16) (hc : 1 ≤ count) (hc2 : count ≤ 5000) :
    Calls Try.prog 42 #[.pointer (some ⟨mb, 3, none⟩), .int .i64 (first : Int), .int .i64 (count : Int)] w fun e w' => (∃ n, 1 ≤ n ∧ e = .returned (.slice (some ⟨g, first, none⟩) n n)) ∧ w' = w := by
  have hmn : ∀ (x y : Int) (ts : Array TypeId) (t : TypeId) (w : World), (Builtin.min_ ts t #[.int .i64 x, .int .i64 y]).run Try.prog w = .ok (.int .i64 (min x y)) w := by
    intro x y ts t w
    have e : (if y < x then y else x) = min x y := by split <;> omega
    simp only [← e]
    simp [Builtin.min_, Builtin.min2]
  obtain ⟨f, hf1⟩ : ∃ f, f = first % 16 := ⟨_, rfl⟩
  obtain ⟨q, hq⟩ : ∃ q, q = first / 16 := ⟨_, rfl⟩
  have t1 : (first : Int).tmod 16 = (f : Int) := by rw [Int.tmod_eq_emod_of_nonneg (by omega)]; omega
  have t2 : (first : Int).tdiv 16 = (q : Int) := by rw [Int.tdiv_eq_ediv_of_nonneg (by omega)]; omega
  obtain ⟨en, hen⟩ : ∃ en, en = min (f + count) 16 := ⟨_, rfl⟩
  have t3 : min ((f : Int) + (count : Int)) 16 = (en : Int) := by omega
  have f16 : f < 16 := by omega
  have q1 : q < np := by omega
  have e1 : f < en := by omega
  have e2 : en ≤ 16 := by omega
  have e3 : ¬ (en = f) := by omega
  have e4 : (f : Int) ≤ en := by omega
  have e5 : (en : Int) ≤ 16 := by omega
  have hfq : first = q * 16 + f := by omega
  have HFQ := Lib.hid hfq
  clear hf1 hq hen hfq
  go_enter Try.func42, Try.ntmps42
  go_wp2
  go_ret
  exact ⟨⟨en - f, by omega, by rw [← HFQ.out]; rfl⟩, rfl⟩

/-- What 'take' has found. -/
def Took (b : Nat → Bool) (np : Nat) (data : List Int) (count p np' : Nat) (data' : List Int) : Prop :=
  (Run b p count ∧ (∀ q, q < p → ¬ Run b q count) ∧ np' = np ∧ data' = data) ∨ ((∀ q, ¬ Run b q count) ∧ p = np ∧ np' = np + count ∧ data' = data ++ List.replicate (count * 16) 0)

theorem Pg.run_le {w : World} {mb : Nat} {vs : List Value} {np : Nat} {data : List Int} {b : Nat → Bool} {cnt : Nat} (h : Pg w mb vs np data b cnt) {p k : Nat} (hk : 1 ≤ k) (hr : Run b p k) : p + k ≤ np ∧ (List.range np).countP (setB b p k false) + k = cnt := by
  have h1 : p + k ≤ np := by
    have h2 := hr (p + k - 1) (by omega) (by omega)
    by_cases h3 : np ≤ p + k - 1
    · rw [h.out _ h3] at h2; cases h2
    · omega
  have h2 := countP_setB b p k np h1 false (fun i a c => by rw [hr i a c]; rfl)
  have h3 := h.sum
  simp at h2
  exact ⟨h1, by omega⟩

theorem Pg.set3 {w w' : World} {mb : Nat} {vs : List Value} {np : Nat} {data : List Int} {b : Nat → Bool} {cnt : Nat} (h : Pg w mb vs np data b cnt) {p count c2 : Nat} (hT : Tr w' mb (vs.set 5 (.int .i64 (c2 : Int))) (setB b p count false)) (k : Kept (fun j => j = mb ∨ nb vs = some j) w w')
    (hk : 1 ≤ count) (hr : Run b p count) (hc : c2 = cnt - count) : Pg w' mb (vs.set 5 (.int .i64 (c2 : Int))) np data (setB b p count false) c2 := by
  have e3 : (vs.set 5 (.int .i64 (c2 : Int))).getD 3 undef = vs.getD 3 undef := by rw [List.getD_eq_getElem?_getD, List.getElem?_set, if_neg (by omega), ← List.getD_eq_getElem?_getD]
  have e4 : (vs.set 5 (.int .i64 (c2 : Int))).getD 4 undef = vs.getD 4 undef := by rw [List.getD_eq_getElem?_getD, List.getElem?_set, if_neg (by omega), ← List.getD_eq_getElem?_getD]
  obtain ⟨h1, h2⟩ := h.run_le hk hr
  have h6 := h.six
  refine ⟨hT, by rw [List.length_set]; exact h6, ?_, by rw [List.getElem?_set, if_pos rfl, if_pos (by omega)], ?_, ?_, h.few, by omega, ?_⟩
  · rw [e3]
    exact k.row h.own (fun j hj hs => hs.elim (fun e => h.pne (by unfold pb; rw [hj, e])) (fun e => h.apart j hj e))
  · unfold pb; rw [e3]; exact h.pne
  · intro j hj
    unfold pb at hj; rw [e3] at hj
    unfold nb; rw [e4]; exact h.apart j hj
  · intro i hi
    rw [setB_out (by omega)]; exact h.out i hi

theorem countP_more (b : Nat → Bool) (n k : Nat) (h : ∀ i, n ≤ i → b i = false) : (List.range (n + k)).countP b = (List.range n).countP b := by
  induction k with
  | zero => rfl
  | succ k ih => rw [← Nat.add_assoc, List.range_succ, List.countP_append, ih, List.countP_cons, h (n + k) (by omega)]; simp

/-- Fresh pages behind the others. -/
theorem Pg.fresh {w w5 w6 : World} {mb : Nat} {vs : List Value} {np : Nat} {data : List Int} {b : Nat → Bool} {cnt count g cp : Nat} (hP : Tr w5 mb vs b) (six : vs.length = 6) (at5 : vs[5]? = some (.int .i64 (cnt : Int)))
    (own : w5.ownsRow 0 84 16 (.slice (some ⟨g, 0, none⟩) (np + count) cp) (np + count) (ints data ++ List.replicate (count * 16) (Value.int .i64 0)))
    (gm : g ≠ mb) (gn : nb vs ≠ some g) (few : np + count ≤ 60000) (sum : cnt = (List.range np).countP b) (out : ∀ i, np ≤ i → b i = false)
    (k : Kept (fun j => w.heap.size ≤ j ∧ j ≠ g ∧ j ≠ mb ∧ nb vs ≠ some j) (w5.setCell ⟨mb, 3, none⟩ (.slice (some ⟨g, 0, none⟩) (np + count) cp)) w6) :
    Pg w6 mb ((vs.set 3 (.slice (some ⟨g, 0, none⟩) (np + count) cp)).set 5 (.int .i64 (cnt : Int))) (np + count) (data ++ List.replicate (count * 16) 0) (setB b np count false) cnt := by
  have e5 : (vs.set 3 (.slice (some ⟨g, 0, none⟩) (np + count) cp)).set 5 (.int .i64 (cnt : Int)) = vs.set 3 (.slice (some ⟨g, 0, none⟩) (np + count) cp) := by
    apply List.ext_getElem?
    intro i
    rw [List.getElem?_set]
    split
    · rename_i h5; subst h5
      rw [if_pos (by rw [List.length_set]; omega), List.getElem?_set, if_neg (by omega), at5]
    · rfl
  have eb : setB b np count false = b := by
    funext i
    unfold setB
    split
    · rename_i hi; exact (out i hi.1).symm
    · rfl
  have e3 : (vs.set 3 (.slice (some ⟨g, 0, none⟩) (np + count) cp)).getD 3 undef = .slice (some ⟨g, 0, none⟩) (np + count) cp := by
    rw [List.getD_eq_getElem?_getD, List.getElem?_set, if_pos rfl, if_pos (by omega)]; rfl
  have e4 : nb (vs.set 3 (.slice (some ⟨g, 0, none⟩) (np + count) cp)) = nb vs := by
    unfold nb; rw [List.getD_eq_getElem?_getD, List.getElem?_set, if_neg (by omega), ← List.getD_eq_getElem?_getD]
  have epb : pb (vs.set 3 (.slice (some ⟨g, 0, none⟩) (np + count) cp)) = some g := by unfold pb; rw [e3]; rfl
  rw [e5, eb]
  refine ⟨(hP.setv 3 (by omega) _).kept k (fun h => h.2.2.1 rfl) (fun j hj h => h.2.2.2 (by rw [← e4, hj])), by rw [List.length_set]; exact six, ?_, by rw [List.getElem?_set, if_neg (by omega)]; exact at5, ?_, ?_, few, ?_, fun i hi => out i (by omega)⟩
  · rw [e3]
    have e6 : ints (data ++ List.replicate (count * 16) 0) = ints data ++ List.replicate (count * 16) (Value.int .i64 0) := by unfold ints; rw [List.map_append, List.map_replicate]
    rw [e6]
    have o1 := (Kept.setIn (S := (· = mb)) (Kept.refl _ w5) mb 3 rfl (.slice (some ⟨g, 0, none⟩) (np + count) cp)).row own (fun j hj e => gm (by simp only [Value.ownBlock, Option.some.injEq] at hj; omega))
    exact k.row o1 (fun j hj h => h.2.1 (by simp only [Value.ownBlock, Option.some.injEq] at hj; exact hj.symm))
  · rw [epb]; intro e; exact gm (by simpa using e)
  · intro j hj
    rw [epb] at hj
    simp only [Option.some.injEq] at hj
    subst hj
    rw [e4]; exact gn
  · rw [countP_more b np count out]; exact sum

set_option maxRecDepth 100000 in
set_option maxHeartbeats 1600000 in
theorem st_take {w : World} {mb : Nat} {vs : List Value} {np : Nat} {data : List Int} {b : Nat → Bool} {cnt count : Nat} (h : Pg w mb vs np data b cnt) (hk : 1 ≤ count) (hk2 : np + count ≤ 60000) :
    Calls Try.prog 46 #[.pointer (some ⟨mb, 3, none⟩), .int .i64 (count : Int)] w fun e w' => ∃ (p np' : Nat) (data' : List Int) (cnt' : Nat) (v3 : Value), e = .returned (.agg #[.int .i64 (p : Int), .int .i64 (count : Int)]) ∧
      Took b np data count p np' data' ∧ Pg w' mb ((vs.set 3 v3).set 5 (.int .i64 (cnt' : Int))) np' data' (setB b p count false) cnt' ∧ (∀ j, v3.ownBlock = some j → pb vs = some j ∨ w.heap.size ≤ j) ∧ Kept (pgF mb vs) w w' := by
  have hcn := h.cnt
  have hmany : ∀ p, Run b p count → count ≤ cnt := fun p hr => by have := (h.run_le hk hr).2; omega
  have hsome : 1 ≤ cnt → ∃ i, b i = true := fun h1 => by
    rw [h.sum] at h1
    obtain ⟨i, _, hi⟩ := List.countP_pos_iff.1 (show 0 < (List.range np).countP b by omega)
    exact ⟨i, hi⟩
  have k0 : Kept Nil w (w.alloc (.cells #[.int .i64 0, .int .i64 0] 72)) := (Kept.refl _ _).alloc _
  have fd := st_find (h.tr.kept k0 (fun h => h) (fun _ _ h => h)) h.at5 (by have := h.few; omega) hk (by omega) hmany hsome
  have few := h.few
  have lb := h.tr.1.lt
  have FD := Lib.hid fd
  have HH := Lib.hid h
  have K0 := Lib.hid k0
  clear fd hmany hsome k0 h
  go_enter Try.func46, Try.ntmps46
  go_upto_region 2 with (go_at_call 48; refine FD.out.mono ?_; rintro e w2 ⟨p, ok, rfl, hF, hp2, k2⟩)
  have bR0 : Blk w2 w.heap.size [.int .i64 0, .int .i64 0] 72 := Blk.keep k2 (Blk.new rfl) (fun h => h)
  have k02 := K0.out.trans k2
  have lR := bR0.lt
  have r0 := bR0.cell 0
  have r1 := bR0.cell 1
  have fr0 := bR0.frozen 0
  have fr1 := bR0.frozen 1
  simp only [List.getElem?_cons_zero, List.getElem?_cons_succ] at r0 r1
  have H2 := HH.out.kept k02 (fun h => h) (fun _ _ h => h) (fun _ _ h => h)
  have hF' := Lib.hid hF
  have K2 := Lib.hid k2
  have BR := Lib.hid bR0
  have HH2 := Lib.hid H2
  have hsz := k02.size
  have K02 := Lib.hid k02
  have lb2 := H2.tr.1.lt
  clear hF k2 bR0
  cases ok with
  | true =>
    have hT : Run b p count ∧ ∀ q, q < p → ¬ Run b q count := by
      rcases hF'.out with ⟨_, h1, h2⟩ | ⟨h0, _⟩
      · exact ⟨h1, h2⟩
      · cases h0
    have hle := (HH.out.run_le hk hT.1)
    have rm := fun (W : World) (hW : Tr W mb vs b) => st_remove (w := W) hW HH.out.at5 (by have := HH.out.cnt; omega) hk (by omega) hT.1
    have k3 : Kept Nil w2 ((w2.alloc (.cells #[.int .i64 (p : Int), .int .i64 (count : Int)] 72)).drew) := Kept.drew (Kept.alloc (Kept.refl _ _) _)
    have RM := Lib.hid (rm _ (H2.tr.kept k3 (fun h => h) (fun _ _ h => h)))
    have bR8 : Blk ((w2.alloc (.cells #[.int .i64 (p : Int), .int .i64 (count : Int)] 72)).drew) w2.heap.size [.int .i64 (p : Int), .int .i64 (count : Int)] 72 := Blk.drew (Blk.new rfl)
    have HT := Lib.hid hT
    have HL := Lib.hid hle
    have K3 := Lib.hid k3
    have B8 := Lib.hid bR8
    clear hT hle rm k3 bR8 H2 k02
    go_wp2_with fail
    go_region_held3 (fun W => W.cell? ⟨w2.heap.size, 0, none⟩ = some (.int .i64 (p : Int)) ∧ W.cell? ⟨w2.heap.size, 1, none⟩ = some (.int .i64 (count : Int)))
      (first | exact ⟨z0, z1⟩ | go_keep | assumption)
      (first | (go_at_call 49; refine RM.out.mono ?_; rintro e w4 ⟨rfl, T4, k4⟩; have b8 := Blk.keep k4 B8.out (fun h => h.elim (fun e => absurd lb2 (by rw [← e]; exact Nat.lt_irrefl _)) (fun e => absurd (HH2.out.lt.2.2 _ e) (Nat.lt_irrefl _))); have z0 := b8.cell 0; have z1 := b8.cell 1; simp only [List.getElem?_cons_zero, List.getElem?_cons_succ] at z0 z1; have lb8 := b8.lt))
    rename_i hHeld
    clear hHeld
    have nR : ¬ (w.heap.size = mb ∨ nb vs = some w.heap.size) := fun h => h.elim (fun e => absurd lb (by rw [← e]; exact Nat.lt_irrefl _)) (fun e => absurd (HH.out.lt.2.2 _ e) (Nat.lt_irrefl _))
    have b4 := Blk.keep k4 (Blk.keep K3.out BR.out (fun h => h)) nR
    have r0 := b4.cell 0
    have r1 := b4.cell 1
    have fr0 := b4.frozen 0
    have fr1 := b4.frozen 1
    simp only [List.getElem?_cons_zero, List.getElem?_cons_succ] at r0 r1
    have lr4 := b4.lt
    have T5 := Lib.hid T4
    have K4 := Lib.hid k4
    have B4 := Lib.hid b4
    clear T4 k4 b8 b4
    go_wp2
    have bb := (B4.out.set 0 (.int .i64 (p : Int))).set 1 (.int .i64 (count : Int))
    have q0 := bb.cell 0
    have q1 := bb.cell 1
    simp only [List.set_cons_zero, List.set_cons_succ, List.getElem?_cons_zero, List.getElem?_cons_succ] at q0 q1
    refine bodyPost_ret (v := .agg #[.int .i64 (p : Int), .int .i64 (count : Int)]) (by simp [results, go_sem, q0, q1]) rfl ?_
    have P4 := HH2.out.set3 (w' := w4) (c2 := cnt - count) T5.out (K3.out.wide.trans K4.out) hk HT.out.1 rfl
    have e33 : vs.set 3 (vs.getD 3 undef) = vs := by
      apply List.ext_getElem?
      intro i
      rw [List.getElem?_set]
      split
      · rename_i h3; subst h3
        rw [if_pos (by rw [HH.out.six]; omega), List.getD_eq_getElem?_getD, List.getElem?_eq_getElem (by rw [HH.out.six]; omega)]; rfl
      · rfl
    have kk : Kept (pgF mb vs) w w4 := (K02.out.wide.trans K3.out.wide).trans (K4.out.mono (fun j hj => hj.elim .inl (fun e => .inr (.inl e))))
    have k5 : Kept (· = w.heap.size) w4 ((w4.setCell ⟨w.heap.size, 0, none⟩ (.int .i64 (p : Int))).setCell ⟨w.heap.size, 1, none⟩ (.int .i64 (count : Int))) := Kept.setIn (S := (· = w.heap.size)) (Kept.setIn (S := (· = w.heap.size)) (Kept.refl _ _) _ _ rfl _) _ _ rfl _
    refine ⟨p, np, data, cnt - count, vs.getD 3 undef, rfl, .inl ⟨HT.out.1, HT.out.2, rfl, rfl⟩, ?_, fun j hj => .inl hj, ?_⟩
    · rw [e33]
      refine P4.kept k5 (fun e => absurd lb (by rw [e]; exact Nat.lt_irrefl _)) (fun j hj e => ?_) (fun j hj e => ?_)
      · have e3 : pb (vs.set 5 (.int .i64 ((cnt - count : Nat) : Int))) = pb vs := by unfold pb; rw [List.getD_eq_getElem?_getD, List.getElem?_set, if_neg (by omega), ← List.getD_eq_getElem?_getD]
        rw [e3] at hj
        have := HH.out.lt.2.1 j hj; omega
      · have e3 : nb (vs.set 5 (.int .i64 ((cnt - count : Nat) : Int))) = nb vs := by unfold nb; rw [List.getD_eq_getElem?_getD, List.getElem?_set, if_neg (by omega), ← List.getD_eq_getElem?_getD]
        rw [e3] at hj
        have := HH.out.lt.2.2 j hj; omega
    · exact kk.next k5 (fun i hi => .inr (by omega))
  | false =>
    have hno : ∀ q, ¬ Run b q count := by
      rcases hF'.out with ⟨h0, _⟩ | ⟨_, _, h2⟩
      · cases h0
      · exact h2
    obtain ⟨a, cap, h3, hg3⟩ := HH.out.at3
    have c3 := H2.tr.1.cell 3
    rw [h3] at c3
    have own2 := H2.own
    rw [hg3] at own2
    have hpb : pb vs = (Value.slice a np cap).ownBlock := by unfold pb; rw [hg3]
    have HNO := Lib.hid hno
    have HPB := Lib.hid hpb
    have H3 := Lib.hid h3
    have f3 := H2.tr.1.frozen 3
    clear hno hpb h3 hg3 H2 k02
    go_wp2_with (at_builtin; go_loud (refine wpList_fresh _ rfl (.tmp 30) (.tmp 31) rfl _ np count _ rfl rfl (own2.alloc _) hk (by omega) ?_))
    intro g cp w5 own5 gr5 li5
    have hold : ∀ j, (Value.slice a np cap).ownBlock = some j → j < w.heap.size := fun j hj => HH.out.lt.2.1 j (by rw [HPB.out, hj])
    have kg := Kept.grown (Kept.refl (fun j => (Value.slice a np cap).ownBlock = some j) _) gr5 (fun j hj => .inl hj)
    have k25 : Kept (fun j => (Value.slice a np cap).ownBlock = some j) w2 w5 := ((Kept.refl _ _).alloc _).trans kg
    have b7 : Blk w5 w2.heap.size [.int .i64 (np : Int), .int .i64 (count : Int)] 72 := Blk.keep kg (Blk.new rfl) (fun h => by have := hold _ h; omega)
    have b4 : Blk w5 w.heap.size [.int .i64 0, .int .i64 0] 72 := Blk.keep k25 BR.out (fun h => by have := hold _ h; omega)
    have T5 : Tr w5 mb vs b := HH2.out.tr.kept k25 (fun h => HH.out.pne (by rw [HPB.out, h])) (fun j hj h => HH.out.apart j (by rw [HPB.out, h]) hj)
    have z0 := b7.cell 0
    have z1 := b7.cell 1
    have r0 := b4.cell 0
    have r1 := b4.cell 1
    have fr0 := b4.frozen 0
    have fr1 := b4.frozen 1
    simp only [List.getElem?_cons_zero, List.getElem?_cons_succ] at r0 r1 z0 z1
    have l7 := b7.lt
    have l4 := b4.lt
    have lm := T5.1.lt
    have c3 := T5.1.cell 3
    rw [H3.out] at c3
    have f3 := T5.1.frozen 3
    have li : (Value.slice a np cap).ownBlock = some g ∨ g = w2.heap.size + 1 := li5.imp id (fun e => by simpa using e)
    have gm : g ≠ mb := by
      rcases li with h1 | h1
      · intro e; exact HH.out.pne (by rw [HPB.out, h1, e])
      · omega
    have gn : nb vs ≠ some g := by
      rcases li with h1 | h1
      · exact HH.out.apart g (by rw [HPB.out, h1])
      · intro e; have := HH.out.lt.2.2 g e; omega
    have g4 : g ≠ w.heap.size := by
      rcases li with h1 | h1
      · have := hold g h1; omega
      · omega
    have mb4 : mb ≠ w.heap.size := by omega
    have n4 : ¬ (w2.heap.size = w.heap.size) := by
      have := BR.out.lt; omega
    have hnew : ∀ j, (Value.slice (some ⟨g, 0, none⟩) (np + count) cp).ownBlock = some j → pb vs = some j ∨ w.heap.size ≤ j := by
      intro j hj
      simp only [Value.ownBlock, Option.some.injEq] at hj
      subst hj
      rcases li with h1 | h1
      · exact .inl (by rw [HPB.out, h1])
      · exact .inr (by omega)
    have kz : Kept (fun j => j = w.heap.size) (w5.setCell ⟨mb, 3, none⟩ (.slice (some ⟨g, 0, none⟩) (np + count) cp)) (((w5.setCell ⟨mb, 3, none⟩ (.slice (some ⟨g, 0, none⟩) (np + count) cp)).setCell ⟨w.heap.size, 0, none⟩ (.int .i64 (np : Int))).setCell ⟨w.heap.size, 1, none⟩ (.int .i64 (count : Int))) :=
      Kept.setIn (S := (· = w.heap.size)) (Kept.setIn (S := (· = w.heap.size)) (Kept.refl _ _) _ _ rfl _) _ _ rfl _
    have P6 := Pg.fresh (w := w) T5 HH.out.six HH.out.at5 own5 gm gn hk2 HH.out.sum HH.out.out (kz.mono (fun j hj => by subst hj; exact ⟨Nat.le_refl _, Ne.symm g4, Ne.symm mb4, fun e => absurd (HH.out.lt.2.2 _ e) (Nat.lt_irrefl _)⟩))
    have kk : Kept (pgF mb vs) w w5 := K02.out.wide.trans (k25.mono (fun j hj => .inr (.inr (by rw [HPB.out, hj]))))
    have kk2 : Kept (pgF mb vs) w (((w5.setCell ⟨mb, 3, none⟩ (.slice (some ⟨g, 0, none⟩) (np + count) cp)).setCell ⟨w.heap.size, 0, none⟩ (.int .i64 (np : Int))).setCell ⟨w.heap.size, 1, none⟩ (.int .i64 (count : Int))) :=
      (kk.setIn _ _ (.inl rfl) _).next kz (fun i hi => .inr (by omega))
    have bb := (Blk.set (Blk.set (Blk.keep (Kept.setIn (S := (· = mb)) (Kept.refl _ w5) mb 3 rfl (.slice (some ⟨g, 0, none⟩) (np + count) cp)) b4 (Ne.symm mb4)) 0 (.int .i64 (np : Int))) 1 (.int .i64 (count : Int)))
    have q0 := bb.cell 0
    have q1 := bb.cell 1
    simp only [List.set_cons_zero, List.set_cons_succ, List.getElem?_cons_zero, List.getElem?_cons_succ] at q0 q1
    have KK2 := Lib.hid kk2
    have PP6 := Lib.hid P6
    have HN := Lib.hid hnew
    have Q0 := Lib.hid q0
    have Q1 := Lib.hid q1
    clear kk2 P6 hnew q0 q1 bb kk kz li gn hold kg k25 own5 gr5 li5 own2 T5 b7 b4
    go_wp2
    refine bodyPost_ret (v := .agg #[.int .i64 (np : Int), .int .i64 (count : Int)]) ?_ rfl ?_
    · have q0 := Q0.out
      have q1 := Q1.out
      simp [results, go_sem, q0, q1]
    · exact ⟨np, np + count, _, cnt, _, rfl, .inr ⟨HNO.out, rfl, rfl, rfl⟩, PP6.out, HN.out, KK2.out⟩

end Go.Proofs.Ytfoacgdahonapaa
