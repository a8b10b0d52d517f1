/- 'add' and 'remove' of the program: pages wait, or no longer. -/
import Derived.Test.YtfoacgdahonapaaGrow
namespace Go.Proofs.Ytfoacgdahonapaa
open Go.RowKit Abs Tree
set_option linter.unusedVariables false

/-- The tree of the pages that wait, in the memory's block: the bits b say which do. -/
def Tr (w : World) (mb : Nat) (vs : List Value) (b : Nat → Bool) : Prop :=
  Blk w mb vs 61 ∧ ((vs[4]? = some (.slice none 0 0) ∧ ∀ i, b i = false) ∨
    ∃ g n cap rs D, Nodes w mb vs g n cap rs ∧ Right b D (rw rs) ∧ rs.length = 2 ^ (D + 1) ∧ n ≤ 400000 ∧ ∀ i, 2 ^ D ≤ i → b i = false)

/-- The block of the tree's rows. -/
def nb (vs : List Value) : Option Nat := (vs.getD 4 undef).ownBlock

theorem Nodes.nb {w : World} {mb : Nat} {vs : List Value} {g n cap : Nat} {rs : List Rw} (h : Nodes w mb vs g n cap rs) : nb vs = some g := by
  unfold Proofs.Ytfoacgdahonapaa.nb
  rw [List.getD_eq_getElem?_getD, h.at4]; rfl

theorem Tr.nb_ne {w : World} {mb : Nat} {vs : List Value} {b : Nat → Bool} (h : Tr w mb vs b) : nb vs ≠ some mb := by
  rcases h.2 with ⟨h4, _⟩ | ⟨g, n, cap, rs, D, N, _⟩
  · unfold nb; rw [List.getD_eq_getElem?_getD, h4]; simp [Value.ownBlock]
  · rw [N.nb]; intro e; exact N.ne (by simpa using e)

theorem Tr.lt {w : World} {mb : Nat} {vs : List Value} {b : Nat → Bool} (h : Tr w mb vs b) : ∀ k, nb vs = some k → k < w.heap.size := by
  intro k hk
  rcases h.2 with ⟨h4, _⟩ | ⟨g, n, cap, rs, D, N, _⟩
  · unfold nb at hk; rw [List.getD_eq_getElem?_getD, h4] at hk; simp [Value.ownBlock] at hk
  · rw [N.nb] at hk; simp only [Option.some.injEq] at hk; subst hk; exact N.lt.2

theorem Tr.kept {S : Nat → Prop} {w w' : World} {mb : Nat} {vs : List Value} {b : Nat → Bool} (h : Tr w mb vs b) (k : Kept S w w') (h1 : ¬ S mb) (h2 : ∀ j, nb vs = some j → ¬ S j) : Tr w' mb vs b := by
  refine ⟨Blk.keep k h.1 h1, ?_⟩
  rcases h.2 with h4 | ⟨g, n, cap, rs, D, N, r⟩
  · exact .inl h4
  · exact .inr ⟨g, n, cap, rs, D, N.kept k h1 (h2 g N.nb), r⟩

/-- Another cell of the memory's block is written. -/
theorem Nodes.setv {w : World} {mb : Nat} {vs : List Value} {g n cap : Nat} {rs : List Rw} (h : Nodes w mb vs g n cap rs) (i : Nat) (hi : i ≠ 4) (u : Value) : Nodes (w.setCell ⟨mb, i, none⟩ u) mb (vs.set i u) g n cap rs := by
  refine ⟨h.blk.set i u, ?_, ?_, h.len, h.ne⟩
  · rw [List.getElem?_set, if_neg hi]; exact h.at4
  · exact (Kept.setIn (S := (· = mb)) (Kept.refl _ w) mb i rfl u).row h.own (fun k hk e => h.ne (by simp only [Value.ownBlock, Option.some.injEq] at hk; omega))

theorem Tr.setv {w : World} {mb : Nat} {vs : List Value} {b : Nat → Bool} (h : Tr w mb vs b) (i : Nat) (hi : i ≠ 4) (u : Value) : Tr (w.setCell ⟨mb, i, none⟩ u) mb (vs.set i u) b := by
  refine ⟨h.1.set i u, ?_⟩
  rcases h.2 with h4 | ⟨g, n, cap, rs, D, N, r⟩
  · exact .inl ⟨by rw [List.getElem?_set, if_neg hi]; exact h4.1, h4.2⟩
  · exact .inr ⟨g, n, cap, rs, D, N.setv i hi u, r⟩

/-- The old tree, as 'grow' takes it. -/
theorem Tr.old {w : World} {mb : Nat} {vs : List Value} {b : Nat → Bool} (h : Tr w mb vs b) : ∃ a n cap L ls, vs[4]? = some (.slice a n cap) ∧ Old w mb b a n cap L ls ∧ n ≤ 400000 ∧
    (1 ≤ L → ∃ g rs D, Nodes w mb vs g n cap rs ∧ Right b D (rw rs) ∧ rs.length = 2 ^ (D + 1) ∧ L = 2 ^ D) := by
  rcases h.2 with ⟨h4, hb⟩ | ⟨g, n, cap, rs, D, N, R, hl, hn, hb⟩
  · exact ⟨none, 0, 0, 0, [], h4, ⟨rfl, fun i hi => by omega, fun i _ => hb i, rfl, .inl ⟨rfl, rfl, rfl⟩⟩, by omega, fun h1 => by omega⟩
  · have hlen := N.len
    have p1 : 2 ^ (D + 1) = 2 * 2 ^ D := by rw [Nat.pow_succ]; omega
    have p0 : 0 < 2 ^ D := Nat.two_pow_pos D
    have hd : (rs.drop (2 ^ D)).length = 2 ^ D := by rw [List.length_drop]; omega
    refine ⟨some ⟨g, 0, none⟩, n, cap, 2 ^ D, rs.drop (2 ^ D), N.at4, ⟨hd, fun i hi => ?_, hb, by omega, .inr ⟨g, rfl, N.ne, N.lt.2, ?_, by omega, fun j hj => ?_⟩⟩, hn, fun _ => ⟨g, rs, D, N, R, hl, rfl⟩⟩
    · have h1 := R D (Nat.le_refl _) (2 ^ D + i) (by omega) (by omega)
      unfold Ok at h1
      rw [Nat.sub_self, Nat.pow_zero, Nat.mul_one, Nat.add_sub_cancel_left] at h1
      have := Sp.eq_bit h1
      rw [← this]
      unfold rw
      rw [List.getD_eq_getElem?_getD, List.getD_eq_getElem?_getD, List.getElem?_drop]
    · rcases N.own.2 with ⟨h1, h2⟩ | ⟨g', cap', cur, h1, _, _, h3, _⟩
      · cases h1
      · simp only [Value.slice.injEq] at h1
        omega
    · have hi : j / 3 < 2 ^ D := by omega
      have e1 : 2 ^ D * 3 + j = (2 ^ D + j / 3) * 3 + j % 3 := by omega
      rw [N.own.cellAt _ (by omega), e1, rows3_get _ _ _ (by omega)]
      conv => rhs; rw [show j = j / 3 * 3 + j % 3 by omega]
      rw [rows3_get _ _ _ (by omega), List.getElem?_drop]

set_option maxRecDepth 100000 in
set_option maxHeartbeats 1600000 in
theorem st_add {w : World} {mb : Nat} {vs : List Value} {b : Nat → Bool} {p k cnt : Nat} (h : Tr w mb vs b) (hl : vs.length = 6) (h5 : vs[5]? = some (.int .i64 (cnt : Int))) (hc : cnt ≤ 1000000) (hk : 1 ≤ k) (hp : p + k ≤ 100000) :
    Calls Try.prog 40 #[.pointer (some ⟨mb, 4, none⟩), .agg #[.int .i64 (p : Int), .int .i64 (k : Int)]] w fun e w' => e = .returned (.tuple #[]) ∧
      ∃ nv, Tr w' mb ((vs.set 4 nv).set 5 (.int .i64 ((cnt + k : Nat) : Int))) (setB b p k true) ∧ (∀ j, nv.ownBlock = some j → nb vs = some j ∨ w.heap.size ≤ j) ∧ Kept (fun j => j = mb ∨ nb vs = some j) w w' := by
  obtain ⟨a, n, cap, L, ls, hv4, hO, hn, hN⟩ := h.old
  have two := hO.two
  have hd2 : n / 2 = L := by omega
  have lv : ∀ W, W.cell? ⟨mb, 4, none⟩ = some (.slice a n cap) → Calls Try.prog 43 #[.pointer (some ⟨mb, 4, none⟩)] W fun e w' => e = .returned (.int .i64 (L : Int)) ∧ w' = W := by
    intro W hW
    have := st_leaves (w := W) (a := a) hW hn
    rw [hd2] at this
    exact this
  have hL : L ≤ 200000 := by omega
  have hb := h.1
  have hc4 : w.cell? ⟨mb, 4, none⟩ = some (.slice a n cap) := by rw [hb.cell, hv4]
  have lb := hb.lt
  have LV := Lib.hid lv
  have TWO := Lib.hid two
  have HO := Lib.hid hO
  have HB := Lib.hid hb
  have HV := Lib.hid hv4
  have HH := Lib.hid h
  have HN := Lib.hid hN
  have H5 := Lib.hid h5
  have HLn := Lib.hid hl
  clear lv two hO hb hv4 h hN h5 hl hd2
  go_enter Try.func40, Try.ntmps40
  obtain ⟨gr, hgr⟩ : ∃ gr, gr = decide ((L : Int) < (p : Int) + (k : Int)) := ⟨_, rfl⟩
  have GR := Lib.hid hgr
  clear hgr
  go_upto_region 1 with fail
  go_cut [11] (fun s11 W => s11 = .bool gr ∧ Kept Nil w W ∧ Blk W w.heap.size [.int .i64 (p : Int), .int .i64 (k : Int)] 72)
  case first =>
    go_quiet ((go_at_call 43; exact Calls.quiet_of_same (LV.out _ (by go_keep))))
    go_wp2
    go_meet
    exact ⟨by rw [GR.out], Kept.drewN (Kept.alloc (Kept.refl _ _) _) _, Blk.drewN (Blk.new rfl) _⟩
  case rest =>
    obtain ⟨rfl, k1, bs⟩ := hcut
    have bw := Blk.keep k1 HB.out (fun h => h)
    have c0 := bs.cell 0
    have c1 := bs.cell 1
    simp only [List.getElem?_cons_zero, List.getElem?_cons_succ] at c0 c1
    have lbs := bs.lt
    have hsz := k1.size
    have K1 := Lib.hid k1
    have BS := Lib.hid bs
    clear LV hc4 bs
    go_upto_if 11 with fail
    go_cut [] (fun W => ∃ g n2 cap2 rs D, Hid (Nodes W mb (vs.set 4 (.slice (some ⟨g, 0, none⟩) n2 cap2)) g n2 cap2 rs ∧ Right b D (rw rs) ∧ rs.length = 2 ^ (D + 1) ∧ n2 ≤ 400000 ∧ p + k ≤ 2 ^ D ∧ (nb vs = some g ∨ w.heap.size < g) ∧ Kept (· = mb) w W ∧ Blk W w.heap.size [.int .i64 (p : Int), .int .i64 (k : Int)] 72 ∧ ∀ i, 2 ^ D ≤ i → b i = false))
    case first =>
      cases gr with
      | true =>
        have hlt : L < p + k := by have := of_decide_eq_true GR.out.symm; omega
        have O1 : Old wc mb b a n cap L ls := by
          have hO := HO.out
          refine ⟨hO.len, hO.bits, hO.out, hO.two, ?_⟩
          rcases hO.kind with h1 | ⟨g, h1, h2, h3, h4, h6, h7⟩
          · exact .inl h1
          · exact .inr ⟨g, h1, h2, by omega, h4, h6, fun j hj => by
              rw [← h7 j hj]
              exact World.cell?_of_block (k1.block g h3 (fun h => h))⟩
        have gw := st_grow bw HV.out O1 hlt hp
        rw [Int.natCast_add] at gw
        have GW := Lib.hid gw
        clear k1 O1 gw bw hsz
        go_wp2_with (go_at_call 44; refine GW.out.mono ?_; rintro e w2 ⟨rfl, g2, n2, rs2, D2, N2, R2, l2, m2, q2, gg, kk⟩)
        go_meet
        exact ⟨g2, n2, n2, rs2, D2, N2, R2, l2, m2, q2, .inr (by omega), K1.out.wide.trans kk, Blk.keep kk BS.out (by have := HB.out.lt; omega), fun i hi => HO.out.out i (by omega)⟩
      | false =>
        have hge : p + k ≤ L := by have := of_decide_eq_false GR.out.symm; omega
        obtain ⟨g, rs, D, N, R, hl, hLD⟩ := HN.out (by omega)
        have e4 : vs.set 4 (.slice (some ⟨g, 0, none⟩) n cap) = vs := by
          apply List.ext_getElem?
          intro i
          rw [List.getElem?_set]
          split
          · rename_i h4; subst h4; rw [N.at4]; simp [HLn.out]
          · rfl
        have hres : Hid (Nodes wc mb (vs.set 4 (.slice (some ⟨g, 0, none⟩) n cap)) g n cap rs ∧ Right b D (rw rs) ∧ rs.length = 2 ^ (D + 1) ∧ n ≤ 400000 ∧ p + k ≤ 2 ^ D ∧ (nb vs = some g ∨ w.heap.size < g) ∧ Kept (· = mb) w wc ∧ Blk wc w.heap.size [.int .i64 (p : Int), .int .i64 (k : Int)] 72 ∧ ∀ i, 2 ^ D ≤ i → b i = false) := by
          rw [e4]
          exact ⟨N.kept k1 (fun h => h) (fun h => h), R, hl, hn, by omega, .inl N.nb, k1.wide, BS.out, fun i hi => HO.out.out i (by omega)⟩
        clear k1 N R hl hLD e4 bw hsz
        go_wp2
        go_meet
        exact ⟨g, n, cap, rs, D, hres⟩
    case rest =>
      obtain ⟨g, n2, cap2, rs, D, hM⟩ := hcut
      obtain ⟨N, R, l2, m2, q2, gg, kk, bs2, hout⟩ := hM.out
      have mk := st_mark (v := true) N R l2 m2 hk q2
      have e1 : (rv (bit true)).toArray = #[.int .i64 1, .int .i64 1, .int .i64 1] := rfl
      rw [e1] at mk
      have MK := Lib.hid mk
      have gs : g ≠ w.heap.size := by
        rcases gg with h1 | h1
        · have := HH.out.lt g h1; omega
        · omega
      have c0 := bs2.cell 0
      have c1 := bs2.cell 1
      simp only [List.getElem?_cons_zero, List.getElem?_cons_succ] at c0 c1
      have lbs := bs2.lt
      clear mk k1 hsz bw N R l2 m2 q2 gg kk bs2 hout
      go_wp2_with (go_at_call 45; refine MK.out.mono ?_; rintro e w2 ⟨rfl, rs3, N3, l3, R3, k3⟩; obtain ⟨N, R, l2, m2, q2, gg, kk, bs2, hout⟩ := hM.out; have bs3 := Blk.keep k3 bs2 (Ne.symm gs); have c0 := bs3.cell 0; have c1 := bs3.cell 1; simp only [List.getElem?_cons_zero, List.getElem?_cons_succ] at c0 c1; have lbs := bs3.lt; have c5 := N3.blk.cell 5; rw [List.getElem?_set, if_neg (by omega), H5.out] at c5; have f5 := N3.blk.frozen 5; have l5 := N3.blk.lt; have N4 := N3.setv 5 (by omega) (.int .i64 ((cnt + k : Nat) : Int)); rw [Int.natCast_add] at N4; have NN4 := Lib.hid N4; have RR := Lib.hid R3; have K3 := Lib.hid k3; have L3 := Lib.hid l3; clear N R l2 m2 q2 gg kk bs2 hout bs3 N3 N4 R3 k3 l3)
      go_still_tail 9, (by kernel_rfl)
      change wpList _ _ _ _ _ (World.drew _)
      go_wp2
      refine bodyPost_end (v := .tuple #[]) (by simp [results, go_sem]) rfl ?_
      obtain ⟨N, R, l2, m2, q2, gg, kk, bs2, hout⟩ := hM.out
      have N5 := NN4.out.drew
      refine ⟨rfl, .slice (some ⟨g, 0, none⟩) n2 cap2, ?_, ?_, ?_⟩
      · rw [Int.natCast_add]
        exact ⟨N5.blk, .inr ⟨g, n2, cap2, rs3, D, N5, RR.out, by rw [L3.out, l2], m2, fun i hi => by rw [setB_out (by omega)]; exact hout i hi⟩⟩
      · intro j hj
        simp only [Value.ownBlock, Option.some.injEq] at hj
        subst hj
        rcases gg with h1 | h1
        · exact .inl h1
        · exact .inr (by omega)
      · have k5 : Kept (fun j => j = mb ∨ nb vs = some j) w w2 := (kk.mono (fun j hj => .inl hj)).next K3.out (fun i hi => by
          subst hi
          rcases gg with h1 | h1
          · exact .inl (.inr h1)
          · exact .inr (by omega))
        exact (k5.setIn _ _ (.inl rfl) _).drew

set_option maxRecDepth 100000 in
set_option maxHeartbeats 1600000 in
theorem st_remove {w : World} {mb : Nat} {vs : List Value} {b : Nat → Bool} {p k cnt : Nat} (h : Tr w mb vs b) (h5 : vs[5]? = some (.int .i64 (cnt : Int))) (hc : cnt ≤ 1000000) (hk : 1 ≤ k) (hkc : k ≤ cnt) (hb : Run b p k) :
    Calls Try.prog 49 #[.pointer (some ⟨mb, 4, none⟩), .agg #[.int .i64 (p : Int), .int .i64 (k : Int)]] w fun e w' => e = .returned (.tuple #[]) ∧
      Tr w' mb (vs.set 5 (.int .i64 ((cnt - k : Nat) : Int))) (setB b p k false) ∧ Kept (fun j => j = mb ∨ nb vs = some j) w w' := by
  rcases h.2 with ⟨_, h0⟩ | ⟨g, n, cap, rs, D, N, R, hl, hn, hout⟩
  · have := hb p (by omega) (by omega)
    rw [h0 p] at this
    cases this
  have hpk : p + k ≤ 2 ^ D := by
    have h1 := hb (p + k - 1) (by omega) (by omega)
    by_cases h2 : 2 ^ D ≤ p + k - 1
    · rw [hout _ h2] at h1; cases h1
    · omega
  have k1 : Kept Nil w (w.alloc (.cells #[.int .i64 (p : Int), .int .i64 (k : Int)] 72)) := (Kept.refl _ _).alloc _
  have mk := st_mark (v := false) (N.kept k1 (fun h => h) (fun h => h)) R hl hn hk hpk
  have e1 : (rv (bit false)).toArray = #[.int .i64 0, .int .i64 0, .int .i64 0] := rfl
  rw [e1] at mk
  have MK := Lib.hid mk
  have lb := N.lt
  have gs : g ≠ w.heap.size := by omega
  have bs0 : Blk (w.alloc (.cells #[.int .i64 (p : Int), .int .i64 (k : Int)] 72)) w.heap.size [.int .i64 (p : Int), .int .i64 (k : Int)] 72 := Blk.new rfl
  have BS := Lib.hid bs0
  have H5 := Lib.hid h5
  have HNb := Lib.hid N.nb
  have K1 := Lib.hid k1
  have HOut := Lib.hid hout
  have HL := Lib.hid hl
  have HPK := Lib.hid hpk
  have m1 : IntKind.i64.wrap ((cnt : Int) - (k : Int)) = ((cnt - k : Nat) : Int) := by rw [IntKind.wrap_i64]; omega
  obtain ⟨c2, hc2⟩ : ∃ c2, c2 = cnt - k := ⟨_, rfl⟩
  rw [← hc2] at m1 ⊢
  clear mk k1 bs0 h5 N R hl hout h e1 hc2 hpk hb
  go_enter Try.func49, Try.ntmps49
  go_wp2_with (go_at_call 45; refine MK.out.mono ?_; rintro e w2 ⟨rfl, rs3, N3, l3, R3, k3⟩; have bs3 := Blk.keep k3 BS.out (Ne.symm gs); have c0 := bs3.cell 0; have c1 := bs3.cell 1; simp only [List.getElem?_cons_zero, List.getElem?_cons_succ] at c0 c1; have lbs := bs3.lt; have c5 := N3.blk.cell 5; rw [H5.out] at c5; have f5 := N3.blk.frozen 5; have l5 := N3.blk.lt; have N4 := N3.setv 5 (by omega) (.int .i64 (c2 : Int)); have NN4 := Lib.hid N4; have RR := Lib.hid R3; have K3 := Lib.hid k3; have L3 := Lib.hid l3; clear bs3 N3 N4 R3 k3 l3)
  go_still_tail 9, (by kernel_rfl)
  change wpList _ _ _ _ _ (World.drew _)
  go_wp2
  refine bodyPost_end (v := .tuple #[]) (by simp [results, go_sem]) rfl ?_
  have N5 := NN4.out.drew
  refine ⟨rfl, ⟨N5.blk, .inr ⟨g, n, cap, rs3, D, N5, RR.out, by rw [L3.out, HL.out], hn, fun i hi => by rw [setB_out (by have := HPK.out; omega)]; exact HOut.out i hi⟩⟩, ?_⟩
  have k5 : Kept (fun j => j = mb ∨ nb vs = some j) w w2 := K1.out.wide.trans (K3.out.mono (fun i hi => by subst hi; exact .inr HNb.out))
  exact (k5.setIn _ _ (.inl rfl) _).drew

end Go.Proofs.Ytfoacgdahonapaa
