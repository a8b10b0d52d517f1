/- The pages in memory: their words, and which wait; 'giveBack' and 'words' of the program. -/
import Derived.Test.YtfoacgdahonapaaZeros
import Derived.Deep.Slices
namespace Go.Proofs.Ytfoacgdahonapaa
open Go.RowKit Abs Tree
set_option linter.unusedVariables false

/-- The block of the pages' words. -/
def pb (vs : List Value) : Option Nat := (vs.getD 3 undef).ownBlock

/-- The pages: how many are not fresh, their words, which wait, how many wait. -/
structure Pg (w : World) (mb : Nat) (vs : List Value) (np : Nat) (data : List Int) (b : Nat → Bool) (cnt : Nat) : Prop where
  tr : Tr w mb vs b
  six : vs.length = 6
  own : w.ownsRow 0 84 16 (vs.getD 3 undef) np (ints data)
  at5 : vs[5]? = some (.int .i64 (cnt : Int))
  pne : pb vs ≠ some mb
  apart : ∀ k, pb vs = some k → nb vs ≠ some k
  few : np ≤ 60000
  sum : cnt = (List.range np).countP b
  out : ∀ i, np ≤ i → b i = false

theorem Pg.dlen {w : World} {mb : Nat} {vs : List Value} {np : Nat} {data : List Int} {b : Nat → Bool} {cnt : Nat} (h : Pg w mb vs np data b cnt) : data.length = np * 16 := by
  have := h.own.1
  unfold ints at this
  rwa [List.length_map] at this

theorem Pg.cnt {w : World} {mb : Nat} {vs : List Value} {np : Nat} {data : List Int} {b : Nat → Bool} {cnt : Nat} (h : Pg w mb vs np data b cnt) : cnt ≤ np := by
  rw [h.sum]
  have := List.countP_le_length (p := b) (l := List.range np)
  rwa [List.length_range] at this

theorem Pg.at3 {w : World} {mb : Nat} {vs : List Value} {np : Nat} {data : List Int} {b : Nat → Bool} {cnt : Nat} (h : Pg w mb vs np data b cnt) : ∃ a cap, vs[3]? = some (.slice a np cap) ∧ vs.getD 3 undef = .slice a np cap := by
  have h3 : vs[3]? = some (vs.getD 3 undef) := by rw [List.getD_eq_getElem?_getD]; have := h.six; rw [List.getElem?_eq_getElem (by omega)]; rfl
  rcases h.own.2 with ⟨h1, h2⟩ | ⟨g, cap, cur, h1, _⟩
  · exact ⟨none, 0, by rw [h3, h1, h2], by rw [h1, h2]⟩
  · exact ⟨_, cap, by rw [h3, h1], h1⟩

theorem Pg.lt {w : World} {mb : Nat} {vs : List Value} {np : Nat} {data : List Int} {b : Nat → Bool} {cnt : Nat} (h : Pg w mb vs np data b cnt) : mb < w.heap.size ∧ (∀ k, pb vs = some k → k < w.heap.size) ∧ (∀ k, nb vs = some k → k < w.heap.size) :=
  ⟨h.tr.1.lt, fun k hk => (h.own.lt k hk).2, h.tr.lt⟩

theorem Pg.kept {S : Nat → Prop} {w w' : World} {mb : Nat} {vs : List Value} {np : Nat} {data : List Int} {b : Nat → Bool} {cnt : Nat} (h : Pg w mb vs np data b cnt) (k : Kept S w w') (h1 : ¬ S mb) (h2 : ∀ j, pb vs = some j → ¬ S j) (h3 : ∀ j, nb vs = some j → ¬ S j) : Pg w' mb vs np data b cnt :=
  ⟨h.tr.kept k h1 h3, h.six, k.row h.own h2, h.at5, h.pne, h.apart, h.few, h.sum, h.out⟩

/-- The blocks that the pages' methods may turn. -/
def pgF (mb : Nat) (vs : List Value) : Nat → Prop := fun j => j = mb ∨ nb vs = some j ∨ pb vs = some j

/-- Some words are 0. -/
def zr (data : List Int) (a m : Nat) : List Int := data.take a ++ List.replicate m 0 ++ data.drop (a + m)

theorem zr_zero (data : List Int) (a : Nat) : zr data a 0 = data := by simp [zr]
theorem zr_len {data : List Int} {a m : Nat} (h : a + m ≤ data.length) : (zr data a m).length = data.length := by simp [zr]; omega
theorem zr_get {data : List Int} {a m : Nat} (h : a + m ≤ data.length) (j : Nat) : (zr data a m)[j]? = if a ≤ j ∧ j < a + m then some 0 else data[j]? := by
  unfold zr
  rw [List.append_assoc]
  by_cases h1 : j < a
  · rw [List.getElem?_append_left (by rw [List.length_take]; omega), List.getElem?_take_of_lt h1, if_neg (by omega)]
  · rw [List.getElem?_append_right (by rw [List.length_take]; omega), List.length_take, Nat.min_eq_left (by omega)]
    by_cases h2 : j < a + m
    · rw [List.getElem?_append_left (by rw [List.length_replicate]; omega), List.getElem?_replicate, if_pos (by omega), if_pos (by omega)]
    · rw [List.getElem?_append_right (by rw [List.length_replicate]; omega), List.length_replicate, List.getElem?_drop, if_neg (by omega)]
      congr 1; omega

theorem zr_zr {data : List Int} {a m k : Nat} (h : a + m + k ≤ data.length) : zr (zr data a m) (a + m) k = zr data a (m + k) := by
  apply List.ext_getElem?
  intro j
  have h1 : (zr data a m).length = data.length := zr_len (by omega)
  rw [zr_get (by rw [h1]; omega), zr_get (by omega), zr_get (by omega)]
  by_cases h2 : a + m ≤ j ∧ j < a + m + k
  · rw [if_pos h2, if_pos (by omega)]
  · rw [if_neg h2]
    by_cases h3 : a ≤ j ∧ j < a + m
    · rw [if_pos h3, if_pos (by omega)]
    · rw [if_neg h3, if_neg (by omega)]

theorem pInfoI64 : (Try.prog.info? 2).map (fun i => (i.zero, i.size, i.bytes)) = some (some (.int .i64 0), 1, 8) := by kernel_rfl

/-- 'clear' of a page. -/
theorem clear_page (w : World) (ty : TypeId) {g n cap : Nat} {data : List Int} (hown : w.ownsRow 0 84 16 (.slice (some ⟨g, 0, none⟩) n cap) n (ints data)) (i : Nat) (hi : i < n) :
    ∃ w', (Builtin.clear_ #[29] ty #[.slice (some ⟨g, i * 16, none⟩) 16 16]).run Try.prog w = .ok (.tuple #[]) w' ∧ w'.ownsRow 0 84 16 (.slice (some ⟨g, 0, none⟩) n cap) n (ints (zr data (i * 16) 16)) ∧ Kept (· = g) w w' := by
  obtain ⟨i0, hi0, hz0, hz1, hz2⟩ := info_parts pInfoI64
  have hl : data.length = n * 16 := by have := hown.1; unfold ints at this; rwa [List.length_map] at this
  rcases hown.2 with ⟨h1, _⟩ | ⟨g', cap', cur, h1, _, hg, hnc, hcm, hcs, htake⟩
  · cases h1
  · simp only [Value.slice.injEq, Option.some.injEq, Addr.mk.injEq, true_and, and_true] at h1
    obtain ⟨rfl, rfl⟩ := h1
    have hst := run_storeCells_at Try.prog g (i * 16) 84 (List.replicate 16 (Value.int .i64 0)) 0 cur w hg (by rw [List.length_replicate, hcs]; omega) (by intro v hv; rw [List.eq_of_mem_replicate hv]; rfl)
    simp only [Nat.add_zero] at hst
    have hzc : (Builtin.zeroCells (Value.int .i64 0).cells 16).toList = List.replicate 16 (Value.int .i64 0) := by
      apply List.ext_getElem
      · simp [Builtin.zeroCells, Value.cells]
      · intro i h1 h2
        rw [List.getElem_replicate, Array.getElem_toList]
        simp only [Builtin.zeroCells, Array.getElem_map, Array.getElem_range]
        have hc : (Value.int IntKind.i64 0).cells = #[Value.int .i64 0] := rfl
        rw [hc]
        simp [Nat.mod_one]
    refine ⟨w.setRow g (cur.toList.take (i * 16) ++ List.replicate 16 (Value.int .i64 0) ++ cur.toList.drop (i * 16 + (List.replicate 16 (Value.int .i64 0)).length)).toArray, ?_, ⟨?_, .inr ⟨g, cap, _, rfl, Nat.zero_le _, setRow_heap w g cur _ _ _ hg, hnc, hcm, ?_, ?_⟩⟩, ⟨rfl, rfl, rfl, by simp, fun k _ hk => setRow_other w g k _ hk⟩⟩
    · simp only [Builtin.clear_, List.getElem?_toArray, List.getElem?_cons_zero, Sem.run_bind]
      simp [run_underlying Try.underlying29, zeroValue, typeInfo, hi0, hz0, hzc]
      simp at hst
      rw [hst]
      rfl
    · unfold ints; rw [List.length_map, zr_len (by omega), hl]
    · simp only [List.size_toArray, List.length_append, List.length_take, List.length_drop, Array.length_toList, List.length_replicate]
      omega
    · have hcl : cur.toList.length = cap * 16 := by rw [Array.length_toList, hcs]
      apply List.ext_getElem?
      intro j
      have hget : ∀ j, j < n * 16 → cur.toList[j]? = (ints data)[j]? := by intro j hj; rw [← htake, List.getElem?_take_of_lt hj]
      by_cases hj : j < n * 16
      · rw [List.getElem?_take_of_lt hj]
        unfold ints at hget ⊢
        rw [List.getElem?_map, zr_get (by omega)]
        simp only [List.length_replicate, List.append_assoc]
        by_cases h1 : j < i * 16
        · rw [List.getElem?_append_left (by rw [List.length_take]; omega), List.getElem?_take_of_lt h1, if_neg (by omega), hget j hj, List.getElem?_map]
        · rw [List.getElem?_append_right (by rw [List.length_take]; omega), List.length_take, Nat.min_eq_left (by omega)]
          by_cases h2 : j < i * 16 + 16
          · rw [List.getElem?_append_left (by rw [List.length_replicate]; omega), List.getElem?_replicate, if_pos (by omega), if_pos (by omega)]; rfl
          · rw [List.getElem?_append_right (by rw [List.length_replicate]; omega), List.length_replicate, List.getElem?_drop, if_neg (by omega), show i * 16 + 16 + (j - i * 16 - 16) = j by omega, hget j hj, List.getElem?_map]
      · rw [List.getElem?_eq_none (by rw [List.length_take]; omega), List.getElem?_eq_none (by unfold ints; rw [List.length_map, zr_len (by omega)]; omega)]

/-- At the operation. -/
theorem wpList_cleared (w : World) {ops : Array Oper} {rest : List Oper} {o : Oper} {a : Act} {Q : Exit → Act → World → Prop} (hgd : o.guard = none) (s : Operand)
    (ho : o.op = .call { callee := .builtin .clear, args := #[s], argTypes := #[29] }) {g n cap : Nat} {data : List Int} (i : Nat) (hs : a.eval s = .slice (some ⟨g, i * 16, none⟩) 16 16)
    (hown : w.ownsRow 0 84 16 (.slice (some ⟨g, 0, none⟩) n cap) n (ints data)) (hi : i < n)
    (h : ∀ w', w'.ownsRow 0 84 16 (.slice (some ⟨g, 0, none⟩) n cap) n (ints (zr data (i * 16) 16)) → Kept (· = g) w w' → wpList Try.prog ops Q rest (a.put o.dst (.tuple #[])) w') : wpList Try.prog ops Q (o :: rest) a w := by
  obtain ⟨w', hr, h2, h3⟩ := clear_page w o.type hown i hi
  refine wpList_plain hgd fun _ hK => ?_
  unfold Oper.wp execOp
  simp only [ho, resolve, invoke, builtin, Sem.run_bind, Sem.run_pure, Result.andThen_ok, List.map_toArray, List.map_cons, List.map_nil, hs, hr]
  exact hK _ _ (h w' h2 h3)

theorem countP_setB (b : Nat → Bool) (p k : Nat) (n : Nat) (h : p + k ≤ n) (v : Bool) (hv : ∀ i, p ≤ i → i < p + k → b i = !v) :
    (List.range n).countP (setB b p k v) + (if v then 0 else k) = (List.range n).countP b + (if v then k else 0) := by
  induction k with
  | zero =>
    have e : setB b p 0 v = b := by funext i; unfold setB; rw [if_neg (by omega)]
    rw [e]
  | succ k ih =>
    have ih := ih (by omega) (fun i h1 h2 => hv i h1 (by omega))
    have hb := hv (p + k) (by omega) (by omega)
    have e1 : ∀ c : Nat → Bool, (List.range n).countP c = (List.range (p + k)).countP c + (if c (p + k) then 1 else 0) + ((List.range (n - (p + k + 1))).map (p + k + 1 + ·)).countP c := by
      intro c
      have e2 : List.range n = List.range (p + k) ++ [p + k] ++ (List.range (n - (p + k + 1))).map (p + k + 1 + ·) := by
        rw [← List.range_succ, ← Deep.range_split (by omega)]
      conv => lhs; rw [e2]
      rw [List.countP_append, List.countP_append]
      simp [List.countP_cons]
    rw [e1 (setB b p (k + 1) v), e1 b]
    rw [e1 (setB b p k v), e1 b] at ih
    have f1 : (List.range (p + k)).countP (setB b p (k + 1) v) = (List.range (p + k)).countP (setB b p k v) := by
      apply List.countP_congr
      intro i hi
      have := List.mem_range.1 hi
      unfold setB
      by_cases h1 : p ≤ i ∧ i < p + k
      · rw [if_pos h1, if_pos (by omega)]
      · rw [if_neg h1, if_neg (by omega)]
    have f2 : ((List.range (n - (p + k + 1))).map (p + k + 1 + ·)).countP (setB b p (k + 1) v) = ((List.range (n - (p + k + 1))).map (p + k + 1 + ·)).countP (setB b p k v) := by
      apply List.countP_congr
      intro i hi
      obtain ⟨j, _, rfl⟩ := List.mem_map.1 hi
      unfold setB
      rw [if_neg (by omega), if_neg (by omega)]
    have g1 : setB b p (k + 1) v (p + k) = v := setB_in (by omega) (by omega)
    have g2 : setB b p k v (p + k) = !v := by rw [setB_out (by omega), hb]
    rw [f1, f2, g1]
    rw [g2] at ih
    rw [hb] at ih ⊢
    cases v <;> simp at ih ⊢ <;> omega

set_option maxRecDepth 100000 in
set_option maxHeartbeats 1600000 in
theorem st_giveBack {w : World} {mb : Nat} {vs : List Value} {np : Nat} {data : List Int} {b : Nat → Bool} {cnt p k : Nat} (h : Pg w mb vs np data b cnt) (hk : 1 ≤ k) (hp : p + k ≤ np) (hb : ∀ i, p ≤ i → i < p + k → b i = false) :
    Calls Try.prog 33 #[.pointer (some ⟨mb, 3, none⟩), .agg #[.int .i64 (p : Int), .int .i64 (k : Int)]] w fun e w' => e = .returned (.tuple #[]) ∧
      ∃ nv, Pg w' mb ((vs.set 4 nv).set 5 (.int .i64 ((cnt + k : Nat) : Int))) np (zr data (p * 16) (k * 16)) (setB b p k true) (cnt + k) ∧ (∀ j, nv.ownBlock = some j → nb vs = some j ∨ w.heap.size ≤ j) ∧ Kept (pgF mb vs) w w' := by
  obtain ⟨a, cap, h3, hg3⟩ := h.at3
  have hown := h.own
  rw [hg3] at hown
  obtain ⟨g, cap', hq, hgl, hnc, hcm, _⟩ := row_some hown (by omega)
  simp only [Value.slice.injEq, true_and] at hq
  obtain ⟨rfl, rfl⟩ := hq
  have hpb : pb vs = some g := by unfold pb; rw [hg3]; rfl
  have hgm : g ≠ mb := fun e => h.pne (by rw [hpb, e])
  have hgn : nb vs ≠ some g := h.apart g hpb
  have c3 : w.cell? ⟨mb, 3, none⟩ = some (.slice (some ⟨g, 0, none⟩) np cap) := by rw [h.tr.1.cell, h3]
  have hlt := h.lt
  have lb := hlt.1
  have few := h.few
  have hdl := h.dlen
  have HH := Lib.hid h
  have HPB := Lib.hid hpb
  have HGN := Lib.hid hgn
  have HB := Lib.hid hb
  have HDL := Lib.hid hdl
  have HO := Lib.hid hown
  have gs : g ≠ w.heap.size := by omega
  have gmn : mb ≠ w.heap.size := by omega
  clear h h3 hg3 hown hpb hgn hb hdl hlt hgl hnc hcm
  go_enter Try.func33, Try.ntmps33
  go_wp2_with fail
  go_loopw [7] (fun s7 W => ∃ i : Nat, s7 = .int .i64 (i : Int) ∧ i ≤ k ∧ Hid (W.ownsRow 0 84 16 (.slice (some ⟨g, 0, none⟩) np cap) np (ints (zr data (p * 16) (i * 16))) ∧ Kept (· = g) w W ∧ Blk W w.heap.size [.int .i64 (p : Int), .int .i64 (k : Int)] 72)) (fun s7 _ => k - (intOf s7).toNat)
  case atStart =>
    refine ⟨0, rfl, by omega, ?_⟩
    rw [Nat.zero_mul, zr_zero]
    have k1 : Kept Nil w (w.alloc (.cells #[.int .i64 (p : Int), .int .i64 (k : Int)] 72)) := (Kept.refl _ _).alloc _
    exact ⟨k1.row HO.out (fun _ _ h => h), k1.wide, Blk.new rfl⟩
  case round =>
    obtain ⟨i, rfl, hik, hM⟩ := hrel
    obtain ⟨O, K, B⟩ := hM.out
    have s0 := B.cell 0
    have s1 := B.cell 1
    simp only [List.getElem?_cons_zero, List.getElem?_cons_succ] at s0 s1
    have lbs := B.lt
    have k3 := K.cell c3 (fun e => hgm e.symm)
    have kl := K.size
    have lbm : mb < wr.heap.size := by omega
    by_cases hlt : i < k
    · obtain ⟨pi, hpi⟩ : ∃ pi, pi = p + i := ⟨_, rfl⟩
      have m1 : IntKind.i64.wrap ((p : Int) + (i : Int)) = (pi : Int) := by rw [IntKind.wrap_i64]; omega
      have pil : pi < np := by omega
      have PI := Lib.hid hpi
      have HL2 := Lib.hid pil
      have O2 : Hid (wr.drew.ownsRow 0 84 16 (.slice (some ⟨g, 0, none⟩) np cap) np (ints (zr data (p * 16) (i * 16)))) := O
      have BB : Hid (Blk wr.drew w.heap.size [.int .i64 (p : Int), .int .i64 (k : Int)] 72) := B
      have KK := Lib.hid K
      clear O K B hpi
      go_upto_block 1 with fail
      go_cut [] (fun W => Hid (W.ownsRow 0 84 16 (.slice (some ⟨g, 0, none⟩) np cap) np (ints (zr data (p * 16) ((i + 1) * 16))) ∧ Kept (· = g) w W ∧ Blk W w.heap.size [.int .i64 (p : Int), .int .i64 (k : Int)] 72))
      case first =>
        go_wp2_with fail
        go_still_tail 10, (by kernel_rfl)
        change wpList _ _ _ _ _ (World.drew _)
        refine wpList_cleared _ rfl (.tmp 19) rfl pi rfl O2.out HL2.out ?_
        intro w3 own3 k4
        go_wp2
        go_meet
        have kk := KK.out.drew.trans k4
        refine ⟨?_, kk, Blk.keep k4 BB.out (Ne.symm gs)⟩
        rw [show (i + 1) * 16 = i * 16 + 16 by omega, ← zr_zr (by rw [HDL.out]; omega), ← Nat.add_mul, ← PI.out]
        exact own3
      case rest =>
        clear k3 s0 s1 lbs kl lbm
        go_wp2
        go_roundw
        case rel => exact ⟨i + 1, by go_num, by omega, hcut⟩
        case measure => simp [intOf]; omega
    · have hik2 : i = k := by omega
      subst hik2
      have hpg : Pg wr mb vs np (zr data (p * 16) (i * 16)) b cnt := by
        have hH := HH.out
        have hg3 : vs.getD 3 undef = .slice (some ⟨g, 0, none⟩) np cap := by
          obtain ⟨a', c', e1, e2⟩ := hH.at3
          have e3 := hH.tr.1.cell 3
          rw [c3, e1] at e3
          rw [e2]; exact (Option.some.inj e3).symm
        refine ⟨hH.tr.kept K (fun e => hgm e.symm) (fun j hj e => HGN.out (by rw [hj, e])), hH.six, ?_, hH.at5, hH.pne, hH.apart, hH.few, hH.sum, hH.out⟩
        rw [hg3]; exact O
      have hcn := HH.out.cnt
      have ad := fun (W : World) (hW : Tr W mb vs b) => st_add (w := W) hW hpg.six hpg.at5 (by omega) hk (p := p) (k := i) (by omega)
      have tr1 : Tr wr.drew mb vs b := hpg.tr.kept (S := Nil) (Kept.drew (Kept.refl _ _)) (fun h => h) (fun _ _ h => h)
      have AD := Lib.hid (ad wr.drew tr1)
      have HPG := Lib.hid hpg
      have KK := Lib.hid K
      clear hpg ad O K B hcn tr1
      go_wp2_with fail
      go_region_held3 (fun W => W.cell? ⟨w.heap.size, 0, none⟩ = some (.int .i64 (p : Int)) ∧ W.cell? ⟨w.heap.size, 1, none⟩ = some (.int .i64 (i : Int)))
        (first | exact ⟨z0, z1⟩ | go_keep | assumption)
        (first | (go_at_call 40; refine AD.out.mono ?_; rintro e w2 ⟨rfl, nv, T2, n2, k2⟩; have z0 := k2.cell s0 (fun h => h.elim (fun e => gmn e.symm) (fun e => absurd (HH.out.lt.2.2 _ e) (Nat.lt_irrefl _))); have z1 := k2.cell s1 (fun h => h.elim (fun e => gmn e.symm) (fun e => absurd (HH.out.lt.2.2 _ e) (Nat.lt_irrefl _)))))
      refine bodyPost_end (v := .tuple #[]) (by simp [results, go_sem]) rfl ?_
      have hH := HH.out
      have hsz := KK.out.size
      have e3 : ((vs.set 4 nv).set 5 (.int .i64 ((cnt + i : Nat) : Int))).getD 3 undef = vs.getD 3 undef := by
        rw [List.getD_eq_getElem?_getD, List.getElem?_set, if_neg (by omega), List.getElem?_set, if_neg (by omega), ← List.getD_eq_getElem?_getD]
      have e4 : nb ((vs.set 4 nv).set 5 (.int .i64 ((cnt + i : Nat) : Int))) = nv.ownBlock := by
        have h6 := hH.six
        unfold nb
        rw [List.getD_eq_getElem?_getD, List.getElem?_set, if_neg (by omega), List.getElem?_set, if_pos rfl, if_pos (by omega)]; rfl
      have epb : pb ((vs.set 4 nv).set 5 (.int .i64 ((cnt + i : Nat) : Int))) = pb vs := by unfold pb; rw [e3]
      have hnew : ∀ j, nv.ownBlock = some j → nb vs = some j ∨ w.heap.size ≤ j := fun j hj => (n2 j hj).imp id (fun (h : wr.heap.size ≤ j) => by omega)
      refine ⟨rfl, nv, ⟨T2, ?_, ?_, ?_, ?_, ?_, hH.few, ?_, ?_⟩, hnew, ?_⟩
      · rw [List.length_set, List.length_set]; exact hH.six
      · rw [e3]
        exact k2.row HPG.out.own (fun j hj hs => hs.elim (fun e => hH.pne (by unfold pb; rw [hj, e])) (fun e => hH.apart j hj e))
      · have h6 := hH.six
        rw [List.getElem?_set, if_pos rfl, if_pos (by rw [List.length_set]; omega)]
      · rw [epb]; exact hH.pne
      · intro j hj
        rw [epb] at hj
        rw [e4]
        intro e
        rcases hnew j e with h1 | h1
        · exact hH.apart j hj h1
        · have := hH.lt.2.1 j hj; omega
      · have h1 := countP_setB b p i np hp true (fun j h1 h2 => by rw [HB.out j h1 h2]; rfl)
        have h2 := hH.sum
        simp at h1
        omega
      · intro j hj
        rw [setB_out (by omega)]; exact hH.out j hj
      · have k5 : Kept (pgF mb vs) w wr := KK.out.mono (fun j hj => .inr (.inr (by rw [HPB.out, hj])))
        exact k5.drew.next k2 (fun j hj => .inl (hj.elim (fun e => .inl e) (fun e => .inr (.inl e))))

end Go.Proofs.Ytfoacgdahonapaa
