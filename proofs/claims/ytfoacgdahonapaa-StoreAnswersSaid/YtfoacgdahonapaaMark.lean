/- 'mark' of the program: all pages of a stretch get the same row, and the rows over them are made anew. -/
import Derived.Test.YtfoacgdahonapaaJoined
import Derived.StillTailTactics
namespace Go.Proofs.Ytfoacgdahonapaa
open Go.RowKit Abs Tree
set_option linter.unusedVariables false

/-- The bits of a stretch are set to v. -/
def setB (b : Nat → Bool) (p k : Nat) (v : Bool) : Nat → Bool := fun i => if p ≤ i ∧ i < p + k then v else b i

theorem setB_in {b : Nat → Bool} {p k i : Nat} {v : Bool} (h1 : p ≤ i) (h2 : i < p + k) : setB b p k v i = v := by unfold setB; rw [if_pos ⟨h1, h2⟩]
theorem setB_out {b : Nat → Bool} {p k i : Nat} {v : Bool} (h : i < p ∨ p + k ≤ i) : setB b p k v i = b i := by unfold setB; rw [if_neg (by omega)]

/-- Behind i rounds. -/
structure MIn (rs0 rs : List Rw) (L p i : Nat) (q : Rw) : Prop where
  len : rs.length = rs0.length
  done : ∀ j, p ≤ j → j < p + i → rw rs (L + j) = q
  rest : ∀ m, (m < L + p ∨ L + p + i ≤ m) → rw rs m = rw rs0 m

theorem MIn.start (rs : List Rw) (L p : Nat) (q : Rw) : MIn rs rs L p 0 q := ⟨rfl, fun j h1 h2 => by omega, fun _ _ => rfl⟩

theorem MIn.next {rs0 rs : List Rw} {L p i : Nat} {q : Rw} (h : MIn rs0 rs L p i q) (hl : L + p + i < rs0.length) : MIn rs0 (rs.set (L + p + i) q) L p (i + 1) q := by
  have hlen := h.len
  refine ⟨by rw [List.length_set]; exact h.len, fun j h1 h2 => ?_, fun m hm => ?_⟩
  · rw [rw_set (by omega)]
    by_cases e : L + j = L + p + i
    · rw [if_pos e]
    · rw [if_neg e]; exact h.done j h1 (by omega)
  · rw [rw_set (by omega), if_neg (by omega)]
    exact h.rest m (by omega)

theorem MIn.jat {b : Nat → Bool} {D : Nat} {rs0 rs : List Rw} {p k : Nat} {v : Bool} (h : MIn rs0 rs (2 ^ D) p k (bit v)) (hR : Right b D (rw rs0)) (hl : rs0.length = 2 ^ (D + 1)) (hk : 1 ≤ k) (hp : p + k ≤ 2 ^ D) :
    JAt (setB b p k v) D rs D (2 ^ D + p) (2 ^ D + p + k - 1) := by
  have e : 2 ^ (D + 1) = 2 * 2 ^ D := by rw [Nat.pow_succ]; omega
  refine ⟨Nat.le_refl _, by omega, by omega, by omega, by omega, by rw [h.len]; exact hl, ?_⟩
  refine Upto.leaves hR hp (fun i h1 h2 => ?_) (fun n hn => h.rest n hn) (fun i hi => setB_out hi)
  rw [h.done i h1 h2, setB_in h1 h2]

theorem Nodes.drew {w : World} {mb : Nat} {vs : List Value} {g n cap : Nat} {rs : List Rw} (h : Nodes w mb vs g n cap rs) : Nodes w.drew mb vs g n cap rs := ⟨h.blk, h.at4, h.own, h.len, h.ne⟩

set_option maxRecDepth 100000 in
set_option maxHeartbeats 1600000 in
theorem st_mark {w : World} {mb : Nat} {vs : List Value} {g n cap : Nat} {rs : List Rw} {b : Nat → Bool} {D p k : Nat} {v : Bool} (h : Nodes w mb vs g n cap rs) (hR : Right b D (rw rs)) (hl : rs.length = 2 ^ (D + 1)) (hn : n ≤ 400000) (hk : 1 ≤ k) (hpk : p + k ≤ 2 ^ D) :
    Calls Try.prog 45 #[.pointer (some ⟨mb, 4, none⟩), .agg #[.int .i64 (p : Int), .int .i64 (k : Int)], .agg (rv (bit v)).toArray] w fun e w' => e = .returned (.tuple #[]) ∧
      ∃ rs', Nodes w' mb vs g n cap rs' ∧ rs'.length = rs.length ∧ Right (setB b p k v) D (rw rs') ∧ Kept (· = g) w w' := by
  obtain ⟨L, hL⟩ : ∃ L, L = 2 ^ D := ⟨_, rfl⟩
  have hlen := h.len
  have hn2 : n = 2 * L := by rw [← hlen, hl, hL, Nat.pow_succ]; omega
  have hd2 : n / 2 = L := by omega
  have lv : ∀ W, W.cell? ⟨mb, 4, none⟩ = some (.slice (some ⟨g, 0, none⟩) n cap) → Calls Try.prog 43 #[.pointer (some ⟨mb, 4, none⟩)] W fun e w' => e = .returned (.int .i64 (L : Int)) ∧ w' = W := by
    intro W hW
    have := st_leaves (a := some ⟨g, 0, none⟩) (cap := cap) hW hn
    rw [hd2] at this
    exact this
  have hb : L ≤ 200000 := by omega
  have hLn : L + L ≤ n := by omega
  have hpL : p + k ≤ L := by rw [hL]; exact hpk
  have lb := h.lt
  have hc4 := h.cell
  obtain ⟨q, hq⟩ : ∃ q, q = bit v := ⟨_, rfl⟩
  rw [← hq]
  have LV := Lib.hid lv
  have NH := Lib.hid h
  have RH := Lib.hid hR
  have HL := Lib.hid hL
  have HQ := Lib.hid hq
  have HLEN := Lib.hid hl
  clear lv h hR hL hq hl hlen hn2 hd2 hpk
  simp only [rv]
  go_enter Try.func45, Try.ntmps45
  go_wp2_with fail
  go_quiet ((go_at_call 43; exact Calls.quiet_of_same (LV.out _ (by go_keep))))
  go_wp2_with fail
  go_loopw [8] (fun s8 W => ∃ i : Nat, i ≤ k ∧ s8 = .int .i64 ((L + p + i : Nat) : Int) ∧ ∃ rs', Hid (MIn rs rs' L p i q ∧ Nodes W mb vs g n cap rs' ∧ Kept (· = g) w W ∧ Blk W w.heap.size [.int .i64 (p : Int), .int .i64 (k : Int)] 72 ∧ Blk W (w.heap.size + 1) (rv q) 91)) (fun s8 _ => L + p + k - (intOf s8).toNat)
  case atStart =>
    have k1 : Kept (· = g) w (((w.alloc (.cells #[.int .i64 (p : Int), .int .i64 (k : Int)] 72)).alloc (.cells #[.int .i64 q.f, .int .i64 q.k, .int .i64 q.m] 91)).drewN nq) :=
      Kept.drewN (Kept.alloc (Kept.alloc (Kept.refl _ _) _) _) _
    have k0 : Kept Nil w (((w.alloc (.cells #[.int .i64 (p : Int), .int .i64 (k : Int)] 72)).alloc (.cells #[.int .i64 q.f, .int .i64 q.k, .int .i64 q.m] 91)).drewN nq) :=
      Kept.drewN (Kept.alloc (Kept.alloc (Kept.refl _ _) _) _) _
    exact ⟨0, by omega, by go_num, rs, MIn.start _ _ _ _, NH.out.kept k0 (fun h => h) (fun h => h), k1, Blk.drewN (Blk.alloc (Blk.new rfl) _) _, Blk.drewN (Blk.new (by simp)) _⟩
  case round =>
    obtain ⟨i, hi, rfl, rs2, hM⟩ := hrel
    obtain ⟨I, N, K, B0, B1⟩ := hM.out
    obtain ⟨wp, hwp⟩ : ∃ x, x = L + p + i := ⟨_, rfl⟩
    rw [← hwp]
    have B1' := B1
    unfold rv at B1
    have c0 := B1.cell 0
    have c1 := B1.cell 1
    have c2 := B1.cell 2
    simp only [List.getElem?_cons_zero, List.getElem?_cons_succ] at c0 c1 c2
    have z4 := N.cell
    have lb2 := N.lt
    have hwl := K.size
    have b1l := B1.lt
    have g0 : g ≠ w.heap.size := by omega
    have g1 : g ≠ w.heap.size + 1 := by omega
    by_cases hik : i < k
    · have d20 : decide ((wp : Int) ≤ (L : Int) + p + k - 1) = true := by simp; omega
      have x2 : wp < n := by omega
      have f1 := N.own.frozenAt (wp * 3)
      have f2 := N.own.frozenAt (wp * 3 + 1)
      have f3 := N.own.frozenAt (wp * 3 + 2)
      obtain ⟨t1, t2, t3⟩ := N.row (i := wp) x2
      have NS := N.set x2 q
      have KS : Kept (· = g) w (((wr.setCell ⟨g, wp * 3, none⟩ (.int .i64 q.f)).setCell ⟨g, wp * 3 + 1, none⟩ (.int .i64 q.k)).setCell ⟨g, wp * 3 + 2, none⟩ (.int .i64 q.m)) := Nodes.kset K g rfl _ _ _ _ _ _
      have k2 : Kept (· = g) wr (((wr.setCell ⟨g, wp * 3, none⟩ (.int .i64 q.f)).setCell ⟨g, wp * 3 + 1, none⟩ (.int .i64 q.k)).setCell ⟨g, wp * 3 + 2, none⟩ (.int .i64 q.m)) := Nodes.kset (S := (· = g)) (Kept.refl _ _) g rfl _ _ _ _ _ _
      have hnx := I.next (by have := N.len; have := I.len; omega)
      rw [← hwp] at hnx
      have HR : Hid (MIn rs (rs2.set wp q) L p (i + 1) q ∧ Nodes (((wr.setCell ⟨g, wp * 3, none⟩ (.int .i64 q.f)).setCell ⟨g, wp * 3 + 1, none⟩ (.int .i64 q.k)).setCell ⟨g, wp * 3 + 2, none⟩ (.int .i64 q.m)) mb vs g n cap (rs2.set wp q) ∧
          Kept (· = g) w (((wr.setCell ⟨g, wp * 3, none⟩ (.int .i64 q.f)).setCell ⟨g, wp * 3 + 1, none⟩ (.int .i64 q.k)).setCell ⟨g, wp * 3 + 2, none⟩ (.int .i64 q.m)) ∧ Blk (((wr.setCell ⟨g, wp * 3, none⟩ (.int .i64 q.f)).setCell ⟨g, wp * 3 + 1, none⟩ (.int .i64 q.k)).setCell ⟨g, wp * 3 + 2, none⟩ (.int .i64 q.m)) w.heap.size [.int .i64 (p : Int), .int .i64 (k : Int)] 72 ∧
          Blk (((wr.setCell ⟨g, wp * 3, none⟩ (.int .i64 q.f)).setCell ⟨g, wp * 3 + 1, none⟩ (.int .i64 q.k)).setCell ⟨g, wp * 3 + 2, none⟩ (.int .i64 q.m)) (w.heap.size + 1) (rv q) 91) := ⟨hnx, NS, KS, Blk.keep k2 B0 (Ne.symm g0), Blk.keep k2 B1' (Ne.symm g1)⟩
      have HWP := Lib.hid hwp
      clear NS KS k2 hnx hwp I N K B0 B1 B1' hwl b1l g0 g1
      go_upto_block 1 with fail
      go_cut [] (fun W => ∃ rs3, Hid (MIn rs rs3 L p (i + 1) q ∧ Nodes W mb vs g n cap rs3 ∧ Kept (· = g) w W ∧ Blk W w.heap.size [.int .i64 (p : Int), .int .i64 (k : Int)] 72 ∧ Blk W (w.heap.size + 1) (rv q) 91))
      case first =>
        go_wp2_with fail
        go_still_tail 7, (by kernel_rfl)
        change wpList _ _ _ _ _ (World.drew _)
        go_wp2
        go_meet
        obtain ⟨r1, r2, r3, r4, r5⟩ := HR.out
        exact ⟨_, r1, r2.drew, r3.drew, r4, r5⟩
      case rest =>
        obtain ⟨rs3, hM3⟩ := hcut
        have hW2 := HWP.out
        have HW2 := Lib.hid hW2
        clear z4 f1 f2 f3 t1 t2 t3 c0 c1 c2 HR hW2
        go_wp2
        go_roundw
        case rel => exact ⟨i + 1, by omega, by have := HWP.out; go_num, rs3, hM3⟩
        case measure => simp [intOf]; have := HWP.out; omega
    · have hik2 : i = k := by omega
      subst hik2
      have d20 : decide ((wp : Int) ≤ (L : Int) + p + i - 1) = false := by simp; omega
      have j1 : JAt (setB b p i v) D rs2 D (L + p) (L + p + i - 1) := by
        have hI := I
        rw [HL.out, HQ.out] at hI
        rw [HL.out]
        exact hI.jat RH.out HLEN.out hk (by rw [← HL.out]; exact hpL)
      have hjn := st_join N j1 hn
      have e2 : ((L + p + i - 1 : Nat) : Int) = (L : Int) + p + i - 1 := by omega
      rw [e2, Int.natCast_add] at hjn
      have JN := Lib.hid hjn
      have HI := Lib.hid I.len
      have HK := Lib.hid K
      clear j1 hjn hwp I N K B0 B1 B1' hwl b1l g0 g1 e2
      go_wp2_with (go_at_call 47; refine JN.out.mono ?_; rintro e w2 ⟨rfl, rs3, N3, l3, r3, k3⟩)
      refine bodyPost_end (v := .tuple #[]) (by simp [results, go_sem]) rfl ?_
      exact ⟨rfl, rs3, N3, by rw [l3, HI.out], r3, HK.out.trans k3⟩
end Go.Proofs.Ytfoacgdahonapaa
