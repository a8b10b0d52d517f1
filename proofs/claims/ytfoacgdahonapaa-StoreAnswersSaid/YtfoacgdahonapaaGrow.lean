/- 'grow' of the program: a tree of as many pages at least, with the old leaves. -/
import Derived.Test.YtfoacgdahonapaaMark
namespace Go.Proofs.Ytfoacgdahonapaa
open Go.RowKit Abs Tree
set_option linter.unusedVariables false

theorem infoRow : (Try.prog.info? 91).map (fun i => (i.zero, i.size, i.bytes)) = some (some (.agg #[.int .i64 0, .int .i64 0, .int .i64 0]), 3, 24) := by kernel_rfl

theorem rows3_zero (m : Nat) : rows3 (List.replicate m ⟨0, 0, 0⟩) = List.replicate (m * 3) (Value.int .i64 0) := by
  unfold rows3
  induction m with
  | zero => rfl
  | succ m ih => rw [List.replicate_succ, List.flatMap_cons, ih, show (m + 1) * 3 = 3 + m * 3 by omega, ← List.replicate_append_replicate]; rfl

theorem made3 (m : Nat) : madeCells (Value.agg #[.int .i64 0, .int .i64 0, .int .i64 0]).cells m = (List.replicate m (Value.int .i64 0)).toArray := by
  apply Array.ext
  · simp [madeCells]
  · intro i h1 h2
    simp only [madeCells, Array.getElem_map, Array.getElem_range, List.getElem_toArray, List.getElem_replicate]
    have h3 : i % 3 < 3 := Nat.mod_lt _ (by omega)
    have e : (Value.agg #[Value.int .i64 0, Value.int .i64 0, Value.int .i64 0]).cells = #[Value.int .i64 0, Value.int .i64 0, Value.int .i64 0] := rfl
    rw [e]
    show (#[Value.int .i64 0, Value.int .i64 0, Value.int .i64 0])[i % 3]! = _
    rcases (show i % 3 = 0 ∨ i % 3 = 1 ∨ i % 3 = 2 by omega) with h | h | h <;> rw [h] <;> rfl

theorem make_rows (m : Nat) (hm : m ≤ 400000) (w : World) :
    (Instr.makeSlice 55 (.int .i64 (m : Int)) (.int .i64 (m : Int))).run Try.prog w =
      .ok (.slice (some ⟨w.heap.size, 0, none⟩) m m) (w.alloc (.cells (rows3 (List.replicate m ⟨0, 0, 0⟩)).toArray 91)) := by
  obtain ⟨i0, hi0, hz0, hz1, hz2⟩ := info_parts infoRow
  have h := run_make (P := Try.prog) w 55 91 i0 _ Try.underlying55 hi0 hz0 .i64 .i64 (m : Int) (m : Int) (by omega) (Int.le_refl _) (by rw [hz2]; omega) (by omega)
  rw [h, hz1, Int.toNat_natCast, rows3_zero, made3]

/-- 'copy' whose run is known. -/
theorem wpList_copied {P : Program} (w : World) {ops : Array Oper} {rest : List Oper} {o : Oper} {a : Act} {Q : Exit → Act → World → Prop} (hgd : o.guard = none) (d s : Operand) (ts : Array TypeId)
    (ho : o.op = .call { callee := .builtin .copy, args := #[d, s], argTypes := ts }) (v u : Value) (hd : a.eval d = v) (hs : a.eval s = u) {v' : Value} {w' : World}
    (hr : (Builtin.copy_ ts o.type #[v, u]).run P w = .ok v' w') (h : wpList P ops Q rest (a.put o.dst v') w') : wpList P ops Q (o :: rest) a w :=
  wpList_plain hgd fun _ hK => by
    unfold Oper.wp execOp
    simp only [ho, resolve, invoke, builtin, Sem.run_bind, Sem.run_pure, Result.andThen_ok, List.map_toArray, List.map_cons, List.map_nil, hd, hs, hr]
    exact hK _ _ h

/-- 'copy' of rows onto a row of cells that is known whole. -/
theorem copy_rows {P : Program} (w : World) (dT sT ty elem : TypeId) (size g o dLen dCap : Nat) (a : Addr) (sLen sCap : Nat) (cur : Array Value) (t : TypeId) (cs : List Value)
    (hu : P.underlying dT = some (.slice elem)) (hs : (P.info? elem).map (·.size) = some size)
    (hg : w.heap[g]? = some (.cells cur t (0, 0))) (hn : cs.length = Nat.min sLen dLen * size)
    (hsrc : ∀ j v, cs[j]? = some v → w.cell? (a.add j) = some v) (hfit : o + cs.length ≤ cur.size) (h1 : ∀ v ∈ cs, v.oneCell' = true) :
    (Builtin.copy_ #[dT, sT] ty #[.slice (some ⟨g, o, none⟩) dLen dCap, .slice (some a) sLen sCap]).run P w =
      .ok (goInt (Nat.min sLen dLen)) (w.setRow g (cur.toList.take o ++ cs ++ cur.toList.drop (o + cs.length)).toArray) := by
  have hl := run_loadCells_list (P := P) w a cs hsrc
  have hst := run_storeCells_at P g o t cs 0 cur w hg (by simpa using hfit) h1
  rw [hn] at hl
  cases hq : P.info? elem with
  | none => simp [hq] at hs
  | some i =>
    have hi : i.size = size := by simpa [hq] using hs
    have e := hst
    simp only [Nat.add_zero] at e
    simp [Builtin.copy_, run_underlying hu, Builtin.lenOf, Builtin.firstCells, sizeOf, typeInfo, hq, hi, hl, e]

/-- A row of one bit is that bit's. -/
theorem Sp.eq_bit {b : Nat → Bool} {lo : Nat} {r : Rw} (h : Sp b lo 1 r) : r = bit (b lo) := by
  obtain ⟨f, k, m⟩ := r
  have h1 := h.fle
  have h2 := h.kle
  have h3 := h.mle
  simp only at h1 h2 h3
  unfold bit
  cases hb : b lo with
  | true =>
    have hr : Run b lo 1 := fun j a d => by rw [show j = lo by omega]; exact hb
    have f1 := h.front_most (k := 1) (by omega) hr
    have k1 := h.back_most (k := 1) (by omega) (by simpa using hr)
    have m1 := h.most lo 1 (by omega) (by omega) hr
    simp only at f1 k1 m1
    have e1 : f = 1 := by omega
    have e2 : k = 1 := by omega
    have e3 : m = 1 := by omega
    simp [e1, e2, e3]
  | false =>
    have no : ∀ x p, lo ≤ p → p + x ≤ lo + 1 → Run b p x → x = 0 := by
      intro x p h1 h2 hr
      rcases Nat.eq_zero_or_pos x with e | e
      · exact e
      · have := hr p (by omega) (by omega)
        rw [show p = lo by omega, hb] at this
        cases this
    have e1 : f = 0 := no f lo (by omega) (by omega) h.frun
    have e2 : k = 0 := no k (lo + 1 - k) (by omega) (by omega) h.krun
    obtain ⟨p, p1, p2, p3⟩ := h.mrun
    have e3 : m = 0 := no m p p1 p2 p3
    simp [e1, e2, e3]

/-- The old tree, if there is one: its slice, how many leaves, their rows. -/
structure Old (w : World) (mb : Nat) (b : Nat → Bool) (a : Option Addr) (n cap L : Nat) (ls : List Rw) : Prop where
  len : ls.length = L
  bits : ∀ i, i < L → rw ls i = bit (b i)
  out : ∀ i, L ≤ i → b i = false
  two : n = 2 * L
  kind : (a = none ∧ cap = 0 ∧ L = 0) ∨ ∃ g, a = some ⟨g, 0, none⟩ ∧ g ≠ mb ∧ g < w.heap.size ∧ n ≤ cap ∧ 1 ≤ L ∧ ∀ j, j < L * 3 → w.cell? ⟨g, L * 3 + j, none⟩ = (rows3 ls)[j]?

/-- The old leaves as a slice. -/
def oldV (a : Option Addr) (cap L : Nat) : Value :=
  match a with
  | none => .slice none 0 0
  | some ad => .slice (some ⟨ad.block, L * 3, none⟩) L (cap - L)

theorem rows3_one (ls : List Rw) : ∀ v ∈ rows3 ls, v.oneCell' = true := by
  intro v hv
  unfold rows3 at hv
  obtain ⟨r, _, hr⟩ := List.mem_flatMap.1 hv
  simp only [rv, List.mem_cons, List.not_mem_nil, or_false] at hr
  rcases hr with rfl | rfl | rfl <;> rfl

/-- The new tree's rows. -/
def newRows (ls : List Rw) (lv : Nat) : List Rw := List.replicate lv ⟨0, 0, 0⟩ ++ ls ++ List.replicate (lv - ls.length) ⟨0, 0, 0⟩

theorem newRows_len {ls : List Rw} {lv : Nat} (h : ls.length ≤ lv) : (newRows ls lv).length = 2 * lv := by simp [newRows]; omega

theorem newRows_in {ls : List Rw} {lv i : Nat} (h : i < ls.length) : rw (newRows ls lv) (lv + i) = rw ls i := by
  unfold rw newRows
  rw [List.getD_eq_getElem?_getD, List.getD_eq_getElem?_getD, List.append_assoc, List.getElem?_append_right (by simp), List.length_replicate, Nat.add_sub_cancel_left, List.getElem?_append_left h]

theorem newRows_out {ls : List Rw} {lv n : Nat} (h : n < lv ∨ lv + ls.length ≤ n) : rw (newRows ls lv) n = ⟨0, 0, 0⟩ := by
  unfold rw newRows
  rw [List.getD_eq_getElem?_getD, List.append_assoc]
  rcases h with h | h
  · rw [List.getElem?_append_left (by simpa using h), List.getElem?_replicate, if_pos h]; rfl
  · rw [List.getElem?_append_right (by simp; omega), List.length_replicate, List.getElem?_append_right (by omega), List.getElem?_replicate]
    split <;> rfl

theorem rows3_append (a b : List Rw) : rows3 (a ++ b) = rows3 a ++ rows3 b := by unfold rows3; rw [List.flatMap_append]

theorem newRows_rows {ls : List Rw} {lv : Nat} (h : ls.length ≤ lv) :
    ((rows3 (List.replicate (2 * lv) ⟨0, 0, 0⟩)).toArray.toList.take (lv * 3) ++ rows3 ls ++ (rows3 (List.replicate (2 * lv) ⟨0, 0, 0⟩)).toArray.toList.drop (lv * 3 + (rows3 ls).length)) = rows3 (newRows ls lv) := by
  unfold newRows
  rw [rows3_append, rows3_append, rows3_zero, rows3_zero, rows3_zero, rows3_len]
  simp only [List.take_replicate, List.drop_replicate]
  congr 1
  · congr 1
    congr 1
    omega
  · congr 1
    omega

/-- The copy of the old leaves. -/
theorem copy_old {w W : World} {mb : Nat} {b : Nat → Bool} {a : Option Addr} {n cap L : Nat} {ls : List Rw} (h : Old w mb b a n cap L ls) (k : Kept (· = mb) w W) {lv gN : Nat} (hl : L ≤ lv) (hg : W.heap[gN]? = some (.cells (rows3 (List.replicate (2 * lv) ⟨0, 0, 0⟩)).toArray 91 (0, 0))) (ty : TypeId) (c2 : Nat) :
    (Builtin.copy_ #[55, 55] ty #[.slice (some ⟨gN, lv * 3, none⟩) lv c2, oldV a cap L]).run Try.prog W = .ok (.int .i64 (L : Int)) (W.setRow gN (rows3 (newRows ls lv)).toArray) := by
  have hlen := h.len
  obtain ⟨i0, hi0, hz0, hz1, hz2⟩ := info_parts infoRow
  rw [← newRows_rows (by omega)]
  rcases h.kind with ⟨rfl, rfl, rfl⟩ | ⟨g, rfl, hgm, hgl, hnc, hL, hcells⟩
  · have e : ls = [] := List.eq_nil_of_length_eq_zero hlen
    subst e
    have e2 : (rows3 []) = [] := rfl
    rw [e2]
    have := run_copy_nil (P := Try.prog) W 55 55 ty 91 ⟨gN, lv * 3, none⟩ lv c2 Try.underlying55 (by rw [hi0]; rfl)
    simp only [oldV]
    rw [this]
    simp only [List.append_nil, List.length_nil, Nat.add_zero, List.take_append_drop]
    rw [setRow_self W gN _ _ _ hg]
    rfl
  · have hmin : Nat.min L lv = L := Nat.min_eq_left hl
    have := copy_rows (P := Try.prog) W 55 55 ty 91 3 gN (lv * 3) lv c2 ⟨g, L * 3, none⟩ L (cap - L) _ _ (rows3 ls) Try.underlying55 (by rw [hi0]; simp [hz1]) hg (by rw [hmin, rows3_len, hlen])
      (fun j v hj => by
        have hjl : j < L * 3 := by have := (List.getElem?_eq_some_iff.1 hj).1; rw [rows3_len, hlen] at this; exact this
        have e1 : (⟨g, L * 3, none⟩ : Addr).add j = ⟨g, L * 3 + j, none⟩ := by unfold Addr.add; split <;> simp_all
        rw [e1]
        exact k.cell ((hcells j hjl).trans hj) hgm)
      (by simp [rows3_len]; omega) (rows3_one ls)
    simp only [oldV]
    rw [this, hmin]
    rfl

set_option maxRecDepth 100000 in
set_option maxHeartbeats 1600000 in
theorem st_grow {w : World} {mb : Nat} {vs : List Value} {a : Option Addr} {n cap L : Nat} {ls : List Rw} {b : Nat → Bool} {pages : Nat} (hb : Blk w mb vs 61) (hv : vs[4]? = some (.slice a n cap)) (h : Old w mb b a n cap L ls) (hp : L < pages) (hpm : pages ≤ 100000) :
    Calls Try.prog 44 #[.pointer (some ⟨mb, 4, none⟩), .int .i64 (pages : Int)] w fun e w' => e = .returned (.tuple #[]) ∧
      ∃ g2 n2 rs' D2, Nodes w' mb (vs.set 4 (.slice (some ⟨g2, 0, none⟩) n2 n2)) g2 n2 n2 rs' ∧ Right b D2 (rw rs') ∧ rs'.length = 2 ^ (D2 + 1) ∧ n2 ≤ 400000 ∧ pages ≤ 2 ^ D2 ∧ w.heap.size ≤ g2 ∧ Kept (· = mb) w w' := by
  have two := h.two
  have hd2 : n / 2 = L := by omega
  have hc4 : w.cell? ⟨mb, 4, none⟩ = some (.slice a n cap) := by rw [hb.cell, hv]
  have lv : ∀ W, W.cell? ⟨mb, 4, none⟩ = some (.slice a n cap) → Calls Try.prog 43 #[.pointer (some ⟨mb, 4, none⟩)] W fun e w' => e = .returned (.int .i64 (L : Int)) ∧ w' = W := by
    intro W hW
    have := st_leaves (w := W) (a := a) hW (by omega)
    rw [hd2] at this
    exact this
  have LV := Lib.hid lv
  have TWO := Lib.hid two
  have nle : n ≤ 200000 := by omega
  have lb := hb.lt
  have HO := Lib.hid h
  have HB := Lib.hid hb
  have HV := Lib.hid hv
  clear lv h hd2 hb hv two
  go_enter Try.func44, Try.ntmps44
  go_upto_region 1 with fail
  go_cut [4] (fun s4 W => s4 = oldV a cap L ∧ Kept Nil w W)
  case first =>
    rcases HO.out.kind with ⟨h1, h2, h3⟩ | ⟨g, h1, hgm, hgl, hnc, hL, hcells⟩
    · subst h1 h2 h3
      have two0 : n = 0 := TWO.out
      subst two0
      go_quiet ((go_at_call 43; exact Calls.quiet_of_same (LV.out _ (by go_keep))))
      go_wp2
      go_meet
      exact ⟨rfl, Kept.drewN (Kept.refl _ _) _⟩
    · subst h1
      have nc : ¬ (cap = L) := by have := TWO.out; omega
      have lc : (L : Int) ≤ n := by have := TWO.out; omega
      have nL : n - L = L := by have := TWO.out; omega
      go_quiet ((go_at_call 43; exact Calls.quiet_of_same (LV.out _ (by go_keep))))
      go_wp2
      go_meet
      exact ⟨rfl, Kept.drewN (Kept.refl _ _) _⟩
  case rest =>
    obtain ⟨rfl, K0⟩ := hcut
    have B0 := Blk.keep K0 HB.out (fun h => h)
    have c4 := B0.cell 4
    rw [HV.out] at c4
    have f4 := B0.frozen 4
    have lb0 := B0.lt
    have HK0 := Lib.hid K0
    have HB0 := Lib.hid B0
    clear LV K0 B0 hc4 lb
    go_wp2_with fail
    go_loop [5] (fun s5 => ∃ lv : Nat, s5 = .int .i64 (lv : Int) ∧ 1 ≤ lv ∧ lv ≤ 200000 ∧ Hid (∃ e, lv = 2 ^ e)) (fun s5 => pages - (intOf s5).toNat)
    case atStart => exact ⟨1, rfl, by omega, by omega, 0, rfl⟩
    case round =>
      obtain ⟨lv, rfl, hl1, hl2, hpow⟩ := hrel
      by_cases hlt : lv < pages
      · obtain ⟨e, he⟩ := hpow.out
        have hp2 : Hid (∃ e, lv * 2 = 2 ^ e) := ⟨e + 1, by rw [he, Nat.pow_succ]⟩
        clear he
        go_wp2
        go_round
        case rel => exact ⟨lv * 2, by go_num, by omega, by omega, hp2⟩
        case measure => simp [intOf]; omega
      · obtain ⟨n2, hn2⟩ : ∃ n2, n2 = 2 * lv := ⟨_, rfl⟩
        have hmk : ∀ w : World, (Instr.makeSlice 55 (.int .i64 (2 * (lv : Int))) (.int .i64 (2 * (lv : Int)))).run Try.prog w =
            .ok (.slice (some ⟨w.heap.size, 0, none⟩) n2 n2) (w.alloc (.cells (rows3 (List.replicate n2 ⟨0, 0, 0⟩)).toArray 91)) := fun w => by
          have h := make_rows n2 (by omega) w
          rw [show ((n2 : Nat) : Int) = 2 * (lv : Int) by omega] at h
          exact h
        have l2 : (lv : Int) ≤ n2 := by omega
        have l3 : ¬ (n2 = lv) := by omega
        have l4 : n2 - lv = lv := by omega
        have N2 := Lib.hid hn2
        clear hn2
        obtain ⟨e, he⟩ := hpow.out
        obtain ⟨gN, hgN⟩ : ∃ gN, gN = wc.heap.size := ⟨_, rfl⟩
        obtain ⟨W1, hW1⟩ : ∃ W1, W1 = ((wc.setCell ⟨mb, 4, none⟩ (.slice (some ⟨gN, 0, none⟩) n2 n2)).alloc (.cells (rows3 (List.replicate n2 ⟨0, 0, 0⟩)).toArray 91)) := ⟨_, rfl⟩
        have k1 : Kept (· = mb) wc W1 := by rw [hW1]; exact (Kept.setIn (S := (· = mb)) (Kept.refl _ _) _ _ rfl _).alloc _
        have k01 : Kept (· = mb) w W1 := HK0.out.wide.trans k1
        have B1 : Blk W1 mb (vs.set 4 (.slice (some ⟨gN, 0, none⟩) n2 n2)) 61 := by rw [hW1]; exact (HB0.out.set 4 _).alloc _
        have hgW : W1.heap[gN]? = some (.cells (rows3 (List.replicate (2 * lv) ⟨0, 0, 0⟩)).toArray 91 (0, 0)) := by
          have e1 : gN = (wc.setCell ⟨mb, 4, none⟩ (.slice (some ⟨gN, 0, none⟩) n2 n2)).heap.size := by rw [hgN]; simp [World.setCell]
          have e2 := heap_alloc_new (wc.setCell ⟨mb, 4, none⟩ (.slice (some ⟨gN, 0, none⟩) n2 n2)) (.cells (rows3 (List.replicate n2 ⟨0, 0, 0⟩)).toArray 91)
          rw [← e1, ← hW1, N2.out] at e2
          exact e2
        have hLlv : L ≤ lv := by omega
        have hcp := copy_old HO.out k01 hLlv hgW 3 lv
        have hgmb : gN ≠ mb := by omega
        have hls := HO.out.len
        have hnl := newRows_len (ls := ls) (lv := lv) (by omega)
        have N3 : Nodes (W1.setRow gN (rows3 (newRows ls lv)).toArray) mb (vs.set 4 (.slice (some ⟨gN, 0, none⟩) n2 n2)) gN n2 n2 (newRows ls lv) := by
          have kR : Kept (· = gN) W1 (W1.setRow gN (rows3 (newRows ls lv)).toArray) := ⟨rfl, rfl, rfl, by simp, fun k _ hk => setRow_other W1 gN k _ hk⟩
          refine ⟨Blk.keep kR B1 (Ne.symm hgmb), ?_, ⟨by rw [rows3_len, hnl, N2.out], .inr ⟨gN, n2, _, rfl, Nat.zero_le _, setRow_heap W1 gN _ _ _ (0, 0) hgW, Nat.le_refl _, by unfold maxLen; omega, ?_, ?_⟩⟩, by rw [hnl, N2.out], hgmb⟩
          · have h4 : 4 < vs.length := (List.getElem?_eq_some_iff.1 HV.out).1
            rw [List.getElem?_set]; simp [h4]
          · rw [List.size_toArray, rows3_len, hnl, N2.out]
          · rw [List.take_of_length_le (by rw [rows3_len, hnl, N2.out]; exact Nat.le_refl _)]
        have k3 : Kept (· = mb) w (W1.setRow gN (rows3 (newRows ls lv)).toArray) := by
          have hs0 := HK0.out.size
          exact k01.next (T := (· = gN)) ⟨rfl, rfl, rfl, by simp, fun k _ hk => setRow_other W1 gN k _ hk⟩ (fun i hi => .inr (by omega))
        have p1 : 2 ^ (e + 1) = 2 * lv := by rw [Nat.pow_succ, he]; omega
        have j1 : JAt b e (newRows ls lv) e lv (lv + L - 1) := by
          refine ⟨Nat.le_refl _, by omega, by omega, by omega, by omega, by rw [hnl, p1], ?_⟩
          rw [he, ← hls]
          refine Upto.fresh (by rw [← he]; omega) (fun i hi => ?_) (fun n hn => ?_) (fun i hi => HO.out.out i (by omega))
          · rw [← he, newRows_in hi]; exact HO.out.bits i (by omega)
          · exact newRows_out hn
        have hjn := st_join N3 j1 (by omega)
        have e2 : ((lv + L - 1 : Nat) : Int) = (lv : Int) + L - 1 := by omega
        rw [e2] at hjn
        have hlenv : ∀ W : World, (Builtin.len_ #[55] 3 #[oldV a cap L]).run Try.prog W = .ok (.int .i64 (L : Int)) W := by
          intro W
          rcases HO.out.kind with ⟨h1, h2, h3⟩ | ⟨g, h1, _⟩
          · rw [h1, h2, h3]; simp [oldV, Builtin.len_, run_underlying Try.underlying55, goInt, Result.andThen]
          · rw [h1]; simp [oldV, Builtin.len_, run_underlying Try.underlying55, goInt, Result.andThen]
        have JN := Lib.hid hjn
        have K3 := Lib.hid k3
        have HE := Lib.hid he
        have HNL := Lib.hid hnl
        have HGN := Lib.hid hgN
        have hgle : w.heap.size ≤ gN := by have := HK0.out.size; omega
        clear hjn k3 he hnl k1 k01 B1 hgW hls N3 p1 j1 e2 hgmb
        rw [hW1, hgN] at hcp
        subst hW1
        subst hgN
        go_wp2_with (go_at_call 47; refine JN.out.mono ?_; rintro e5 w2 ⟨rfl, rs3, N3, l3, r3, k4⟩)
        refine bodyPost_end (v := .tuple #[]) (by simp [results, go_sem]) rfl ?_
        refine ⟨rfl, wc.heap.size, n2, rs3, e, N3, r3, by rw [l3, HNL.out, Nat.pow_succ, ← HE.out]; omega, by have := N2.out; omega, by rw [← HE.out]; omega, hgle, ?_⟩
        exact K3.out.next k4 (fun i hi => .inr (by omega))

end Go.Proofs.Ytfoacgdahonapaa
