/- The reference takes pages. -/
import Derived.Test.YtfoacgdahonapaaRefOpen
import Derived.Deep.CutBlock
namespace Go.Proofs.Ytfoacgdahonapaa
open Go.RowKit Abs
set_option linter.unusedVariables false

theorem setRun_zero (l : List (Option Nat)) (p r : Nat) : setRun l p 0 r = l := by unfold setRun; simp

theorem setRun_step (l : List (Option Nat)) (p i r : Nat) (hp : p ≤ l.length) :
    (p + i < max l.length (p + i) → (setRun l p i r).set (p + i) (some r) = setRun l p (i + 1) r) ∧ (¬ p + i < max l.length (p + i) → setRun l p i r ++ [some r] = setRun l p (i + 1) r) := by
  have hlen := setRun_length l p i r hp
  refine ⟨fun h => ?_, fun h => ?_⟩
  · apply List.ext_getElem?
    intro j
    rw [List.getElem?_set, setRun_get _ _ _ _ _ hp, setRun_get _ _ _ _ _ hp, hlen]
    by_cases hj : p + i = j
    · subst hj
      rw [if_pos rfl, if_pos h, if_pos (by omega)]
    · rw [if_neg hj]
      by_cases h1 : p ≤ j ∧ j < p + i
      · rw [if_pos h1, if_pos (by omega)]
      · rw [if_neg h1, if_neg (by omega)]
  · apply List.ext_getElem?
    intro j
    by_cases hj : j < (setRun l p i r).length
    · rw [List.getElem?_append_left hj, setRun_get _ _ _ _ _ hp, setRun_get _ _ _ _ _ hp]
      by_cases h1 : p ≤ j ∧ j < p + i
      · rw [if_pos h1, if_pos (by omega)]
      · rw [if_neg h1, if_neg (by omega)]
    · rw [List.getElem?_append_right (by omega), setRun_get _ _ _ _ _ hp]
      by_cases h1 : j = (setRun l p i r).length
      · subst h1
        rw [Nat.sub_self, if_pos (by omega)]; rfl
      · rw [List.getElem?_eq_none (by simp; omega), if_neg (by omega), List.getElem?_eq_none (by omega)]

/-- What the search has found, p pages looked at. -/
structure Seen (l : List (Option Nat)) (k run at' p : Nat) : Prop where
  sum : at' + run = p
  le : p ≤ l.length
  most : run ≤ k
  free : ∀ j, at' ≤ j → j < p → l[j]? = some none
  before : ∀ q, q < at' → waits l q k = false

theorem seen_zero (l : List (Option Nat)) (k : Nat) : Seen l k 0 0 0 := ⟨rfl, by omega, by omega, fun j h1 h2 => by omega, fun q h => by omega⟩

theorem Seen.wait {l : List (Option Nat)} {k run at' p : Nat} (h : Seen l k run at' p) (hr : run < k) (hp : l[p]? = some none) : Seen l k (run + 1) at' (p + 1) := by
  have := (List.getElem?_eq_some_iff.1 hp).1
  refine ⟨by have := h.sum; omega, by omega, by omega, fun j h1 h2 => ?_, h.before⟩
  by_cases hj : j = p
  · subst hj; exact hp
  · exact h.free j h1 (by omega)

theorem Seen.taken {l : List (Option Nat)} {k run at' p r : Nat} (h : Seen l k run at' p) (hr : run < k) (hp : l[p]? = some (some r)) : Seen l k 0 (p + 1) (p + 1) := by
  have := (List.getElem?_eq_some_iff.1 hp).1
  refine ⟨rfl, by omega, by omega, fun j h1 h2 => by omega, fun q hq => ?_⟩
  by_cases h1 : q < at'
  · exact h.before q h1
  · rw [Bool.eq_false_iff]
    intro hw
    have hs := h.sum
    have := (waits_iff l q k (by omega)).1 hw (p - q) (by omega)
    rw [show q + (p - q) = p by omega, hp] at this
    cases this

theorem Seen.found {l : List (Option Nat)} {k at' p : Nat} (h : Seen l k k at' p) (hk : 0 < k) : findRun l k = at' := by
  have hw : waits l at' k = true := (waits_iff l at' k hk).2 (fun j hj => h.free (at' + j) (by omega) (by have := h.sum; omega))
  rcases findRun_spec l k hk with ⟨h1, h2, h3⟩ | ⟨h1, h2⟩
  · rcases Nat.lt_trichotomy (findRun l k) at' with hlt | heq | hlt
    · rw [h.before _ hlt] at h1; cases h1
    · exact heq
    · rw [h3 at' hlt] at hw; cases hw
  · rw [h2] at hw; cases hw

theorem Seen.missed {l : List (Option Nat)} {k run at' : Nat} (h : Seen l k run at' l.length) (hr : run < k) : findRun l k = l.length := by
  rcases findRun_spec l k (by omega) with ⟨h1, h2, h3⟩ | ⟨h1, h2⟩
  · exfalso
    by_cases hq : findRun l k < at'
    · rw [h.before _ hq] at h1; cases h1
    · have := (waits_iff l (findRun l k) k (by omega)).1 h1 (k - 1) (by omega)
      have := (List.getElem?_eq_some_iff.1 this).1
      have := h.sum
      omega
  · exact h1

/-- The store with the first i of the pages taken. -/
def takenTo (s : ASt) (p i r : Nat) : ASt := { s with owner := setRun s.owner p i r }

theorem takenTo_owner (s : ASt) (p i r : Nat) : ownL (takenTo s p i r) = (setRun s.owner p i r).map fun o => .int .i64 (ownI o) := rfl

/-- The data with n zeros more. -/
def zeros (data : List Int) (n : Nat) : List Int := data ++ List.replicate n 0

theorem zeros_succ (data : List Int) (n : Nat) : ints (zeros data (n + 1)) = ints (zeros data n) ++ [.int .i64 0] := by
  unfold zeros ints
  rw [List.replicate_succ', ← List.append_assoc, List.map_append]; rfl

theorem zeros_length (data : List Int) (n : Nat) : (zeros data n).length = data.length + n := by unfold zeros; simp

theorem RefOk.taken {s : ASt} {all : List Ent} {data : List Int} (h : RefOk s all data) (p k r : Nat) (hp : p ≤ s.owner.length) :
    RefOk (takenTo s p k r) all (zeros data (16 * (max s.owner.length (p + k) - s.owner.length))) := by
  refine ⟨h.live, h.ever, h.regs, h.size, ?_, fun c hc j z hz => ?_⟩
  · rw [zeros_length, h.dlen]
    show _ = 16 * (setRun s.owner p k r).length
    rw [setRun_length _ _ _ _ hp]
    omega
  · have := h.vals c hc j z hz
    unfold zeros
    rw [List.getElem?_append_left (List.getElem?_eq_some_iff.1 this).1]
    exact this

/-- Under way: the struct at sb now holds these rows, at the slices vs'. -/
structure Mid (w : World) (sb : Nat) (vs : List Value) (rows : List (TypeId × List Value)) (W : World) (vs' : List Value) : Prop where
  recs : Recs W sb vs' rows 31
  kept : Kept (recF sb vs) w W
  new : ∀ j, recF sb vs' j → recF sb vs j ∨ w.heap.size ≤ j
  len : vs'.length = 8

theorem Mid.start {w : World} {sb : Nat} {vs : List Value} {rows : List (TypeId × List Value)} (h : Recs w sb vs rows 31) (hl : vs.length = 8) : Mid w sb vs rows w vs :=
  ⟨h, Kept.refl _ _, fun j hj => .inl hj, hl⟩

theorem Mid.next {w W W' : World} {sb : Nat} {vs vs' vs'' : List Value} {rows rows' : List (TypeId × List Value)} (h : Mid w sb vs rows W vs') (R : Recs W' sb vs'' rows' 31) (K : Kept (recF sb vs') W W')
    (N : ∀ j, recF sb vs'' j → recF sb vs' j ∨ W.heap.size ≤ j) (hl : vs''.length = 8) : Mid w sb vs rows' W' vs'' := by
  refine ⟨R, h.kept.next K h.new, fun j hj => ?_, hl⟩
  rcases N j hj with h1 | h1
  · exact h.new j h1
  · have := h.kept.size; exact .inr (by omega)

/-- Only the pages' owners and the words lie elsewhere. -/
def Same (vs vs' : List Value) : Prop := ∀ i, i ≠ 3 → i ≠ 7 → vs'[i]? = vs[i]?

theorem Same.refl (vs : List Value) : Same vs vs := fun i _ _ => rfl
theorem Same.set {vs vs' : List Value} (h : Same vs vs') {i : Nat} (hi : i = 3 ∨ i = 7) (v : Value) : Same vs (vs'.set i v) := fun j h3 h7 => by
  rw [List.getElem?_set, if_neg (by omega)]; exact h j h3 h7

/-- The rows with the first i pages taken and n zeros laid. -/
def takeRows (s : ASt) (all : List Ent) (data : List Int) (q i r n : Nat) : List (TypeId × List Value) := refRows (takenTo s q i r) all (zeros data n)

theorem takeRows_set (s : ASt) (all : List Ent) (data : List Int) (q i r n : Nat) (hq : q ≤ s.owner.length) (h : q + i < s.owner.length) :
    (takeRows s all data q i r n).set 3 (3, (ownL (takenTo s q i r)).set (q + i) (.int .i64 (r : Int))) = takeRows s all data q (i + 1) r n := by
  have e : (ownL (takenTo s q i r)).set (q + i) (.int .i64 (r : Int)) = ownL (takenTo s q (i + 1) r) := by
    rw [takenTo_owner, takenTo_owner, ← (setRun_step s.owner q i r hq).1 (by omega), List.map_set]; rfl
  rw [e]; rfl

theorem takeRows_own (s : ASt) (all : List Ent) (data : List Int) (q i r n : Nat) (hq : q ≤ s.owner.length) (h : ¬ q + i < s.owner.length) :
    (takeRows s all data q i r n).set 3 (3, ownL (takenTo s q i r) ++ [.int .i64 (r : Int)]) = takeRows s all data q (i + 1) r n := by
  have e : ownL (takenTo s q i r) ++ [.int .i64 (r : Int)] = ownL (takenTo s q (i + 1) r) := by
    rw [takenTo_owner, takenTo_owner, ← (setRun_step s.owner q i r hq).2 (by omega), List.map_append]; rfl
  rw [e]; rfl

theorem takeRows_data (s : ASt) (all : List Ent) (data : List Int) (q i r n : Nat) :
    (takeRows s all data q i r n).set 7 (2, ints (zeros data n) ++ [.int .i64 0]) = takeRows s all data q i r (n + 1) := by
  rw [← zeros_succ]; rfl

theorem ownL_taken (s : ASt) (q i r : Nat) (hq : q ≤ s.owner.length) : (ownL (takenTo s q i r)).length = max s.owner.length (q + i) := by
  rw [takenTo_owner, List.length_map, setRun_length _ _ _ _ hq]

theorem ints_zeros (data : List Int) (n : Nat) : (ints (zeros data n)).length = data.length + n := by
  unfold ints; rw [List.length_map, zeros_length]

set_option maxRecDepth 100000 in
set_option maxHeartbeats 3200000 in
theorem ref_take {w : World} {sb : Nat} {vs : List Value} {s : ASt} {all : List Ent} {data : List Int} (hl : vs.length = 8) (hR : Recs w sb vs (refRows s all data) 31) (hO : RefOk s all data) (hW : s.Within 200) (r k : Nat) (hr : r ≤ 1000) (hk1 : 1 ≤ k) (hk2 : k ≤ 257) :
    Calls Try.prog 36 #[.pointer (some ⟨sb, 0, none⟩), .int .i64 (r : Int), .int .i64 (k : Int)] w fun e w' => e = .returned (.int .i64 (findRun s.owner k : Int)) ∧
      ∃ vs' data', Mid w sb vs (refRows (takenTo s (findRun s.owner k) k r) all data') w' vs' ∧ Same vs vs' ∧ RefOk (takenTo s (findRun s.owner k) k r) all data' := by
  obtain ⟨a3, c3, v3, q3, o3⟩ := hR.at 3 (e := 3) (xs := ownL s) rfl
  have l3 : (ownL s).length = s.owner.length := by simp [ownL]
  rw [l3] at q3 o3 v3
  have lb := hR.blk.lt
  have how := hW.owner
  have hfl := findRun_le s.owner k (by omega)
  have hz0 : Mid w sb vs (takeRows s all data (findRun s.owner k) 0 r 0) w vs := by
    have e : takeRows s all data (findRun s.owner k) 0 r 0 = refRows s all data := by
      have e1 : takenTo s (findRun s.owner k) 0 r = s := by unfold takenTo; rw [setRun_zero]
      have e2 : zeros data 0 = data := by unfold zeros; simp
      unfold takeRows; rw [e1, e2]
    rw [e]
    exact Mid.start hR hl
  have M0 := Lib.hid hz0
  have hdl := hO.dlen
  obtain ⟨dl, hdl'⟩ : ∃ dl, dl = data.length := ⟨_, rfl⟩
  rw [← hdl'] at hdl
  have DL := Lib.hid hdl'
  obtain ⟨n, hn⟩ : ∃ n, n = s.owner.length := ⟨_, rfl⟩
  rw [← hn] at q3 o3 v3 how hfl hdl
  have HN := Lib.hid hn
  have V3 := Lib.hid v3
  obtain ⟨q, hq⟩ : ∃ q, q = findRun s.owner k := ⟨_, rfl⟩
  rw [← hq] at hfl M0 ⊢
  have HQ := Lib.hid hq
  obtain ⟨ii, hii, hz0', hz1, hz2⟩ := info_parts rInfoInt
  obtain ⟨i6, hi6, hy0, hy1, hy2⟩ := info_parts rInfoI64
  have hdm : dl ≤ 822400 := by omega
  clear hn l3 v3 hz0 hdl' hq hdl
  go_enter Try.func36, Try.ntmps36
  go_upto_block 0 with fail
  go_cut [7, 8, 9] (fun s7 s8 s9 W => W = w ∧ ∃ p run at' : Nat, s9 = .int .i64 (p : Int) ∧ s8 = .int .i64 (run : Int) ∧ s7 = .int .i64 (at' : Int) ∧ run ≤ k ∧ Hid ((run = k → at' = q) ∧ (run < k → q = n)))
  case first =>
    go_wp2_with fail
    go_loop [7, 8, 9] (fun s7 s8 s9 => ∃ p run at' : Nat, p ≤ n ∧ s9 = .int .i64 (p : Int) ∧ s8 = .int .i64 (run : Int) ∧ s7 = .int .i64 (at' : Int) ∧ Hid (Seen s.owner k run at' p)) (fun _ _ s9 => n - (intOf s9).toNat)
    case atStart => exact ⟨0, 0, 0, Nat.zero_le _, rfl, rfl, rfl, seen_zero _ _⟩
    case round =>
      obtain ⟨p, run, at', hp, rfl, rfl, rfl, hS⟩ := hrel
      have hrun := hS.out.most
      have hsum := hS.out.sum
      by_cases hlt : p < n
      · by_cases hrk : run < k
        · have hpl : p < s.owner.length := by rw [← HN.out]; exact hlt
          obtain ⟨g3, e3, lg3, p3, _⟩ := row_elem o3 hlt
          have p3' : (ownL s)[p]? = some (.int .i64 (ownI s.owner[p])) := by unfold ownL; rw [List.getElem?_map, List.getElem?_eq_getElem hpl]; rfl
          rw [p3'] at p3
          rw [e3] at q3
          have HS := Lib.hid hsum
          cases ho : s.owner[p] with
          | none =>
            have hw := hS.out.wait hrk (by rw [List.getElem?_eq_getElem hpl, ho])
            have HWt := Lib.hid hw
            rw [ho] at p3
            simp only [ownI] at p3
            clear ho p3' e3 hw hsum
            go_wp2
            go_round
            case rel => exact ⟨p + 1, run + 1, at', by omega, by go_num, by go_num, rfl, HWt.out⟩
            case measure => simp [intOf]; omega
          | some q' =>
            have hw := hS.out.taken hrk (by rw [List.getElem?_eq_getElem hpl, ho])
            have HWt := Lib.hid hw
            rw [ho] at p3
            simp only [ownI] at p3
            have ht : ((q' : Int) == -1) = false := by rw [beq_eq_false_iff_ne]; omega
            clear ho p3' e3 hw hsum
            go_wp2
            go_round
            case rel => exact ⟨p + 1, 0, p + 1, by omega, by go_num, rfl, by go_num, HWt.out⟩
            case measure => simp [intOf]; omega
        · have hfin : Hid ((run = k → at' = q) ∧ (run < k → q = n)) := ⟨fun e => by
            have h1 := hS.out
            rw [e] at h1
            rw [HQ.out]; exact (h1.found (by omega)).symm, fun h => absurd h hrk⟩
          clear hsum
          go_wp2_with fail
          go_meet
          exact ⟨rfl, p, run, at', rfl, rfl, rfl, hrun, hfin⟩
      · have hfin : Hid ((run = k → at' = q) ∧ (run < k → q = n)) := ⟨fun e => by
            have h1 := hS.out
            rw [e] at h1
            rw [HQ.out]; exact (h1.found (by omega)).symm, fun h => by
            have h1 := hS.out
            have : p = s.owner.length := by rw [← HN.out]; omega
            rw [this] at h1
            rw [HQ.out, HN.out]; exact h1.missed h⟩
        clear hsum
        go_wp2_with fail
        go_meet
        exact ⟨rfl, p, run, at', rfl, rfl, rfl, hrun, hfin⟩
  case rest =>
    obtain ⟨rfl, p, run, at', rfl, rfl, rfl, hrk, hE⟩ := hcut
    go_upto_if 40 with fail
    go_cut [7] (fun s7 W => W = wc ∧ s7 = .int .i64 (q : Int))
    case first =>
      by_cases hlt : run < k
      · have hqn := hE.out.2 hlt
        have HQN := Lib.hid hqn
        clear hqn
        go_wp2
        go_meet
        exact ⟨rfl, by rw [HQN.out]⟩
      · have hqn := hE.out.1 (by omega)
        have HQN := Lib.hid hqn
        clear hqn
        go_wp2
        go_meet
        exact ⟨rfl, by rw [HQN.out]⟩
    case rest =>
      obtain ⟨rfl, rfl⟩ := hcut
      clear V3 o3 q3 hE lb
      go_wp2_with fail
      go_loopw [10, 11] (fun s10 s11 W => ∃ i : Nat, i ≤ k ∧ s10 = .int .i64 ((q + i : Nat) : Int) ∧ ∃ vs', Hid (Mid wc sb vs (takeRows s all data q i r (16 * (max n (q + i) - n))) W vs' ∧ Same vs vs')) (fun s10 _ _ => q + k - (intOf s10).toNat)
      case atStart => exact ⟨0, by omega, rfl, vs, by rw [show 16 * (max n (q + 0) - n) = 0 by omega]; exact ⟨M0.out, Same.refl _⟩⟩
      case round =>
        obtain ⟨i, hi, rfl, vs', hM⟩ := hrel
        have lb := hM.out.1.recs.blk.lt
        by_cases hik : i < k
        · have hol := ownL_taken s q i r (by rw [← HN.out]; exact hfl)
          rw [← HN.out] at hol
          obtain ⟨a3, c3, v3, q3, o3⟩ := hM.out.1.recs.at 3 (e := 3) (xs := ownL (takenTo s q i r)) rfl
          rw [hol] at v3 q3 o3
          by_cases hin : q + i < n
          · have hmx : max n (q + i) = n := by omega
            rw [hmx] at v3 q3 o3 hol
            obtain ⟨g3, e3, lg3, p3, f3⟩ := row_elem o3 hin
            have hp3 : ∃ u, (ownL (takenTo s q i r))[q + i]? = some u := ⟨_, List.getElem?_eq_getElem (by rw [hol]; exact hin)⟩
            obtain ⟨u, hu⟩ := hp3
            rw [hu] at p3
            rw [e3] at v3 q3
            obtain ⟨R1, K1⟩ := hM.out.1.recs.written (i := 3) v3 rfl hol.symm (q + i) (.int .i64 (r : Int))
            rw [takeRows_set _ _ _ _ _ _ _ (by rw [← HN.out]; exact hfl) (by rw [← HN.out]; exact hin)] at R1
            have hnx := hM.out.1.next R1 K1 (fun j hj => .inl hj) hM.out.1.len
            rw [show 16 * (max n (q + i) - n) = 16 * (max n (q + (i + 1)) - n) by omega] at hnx
            have HNX := Lib.hid hnx
            clear R1 K1 hnx hu e3 v3 hmx hol o3 lg3
            go_wp2
            go_roundw
            case rel => exact ⟨i + 1, by omega, by go_num, vs', HNX.out, hM.out.2⟩
            case measure => simp [intOf]; omega
          · have hmx : max n (q + i) = q + i := by omega
            rw [hmx] at v3 q3 o3 hol
            have HOL := Lib.hid hol
            have V3 := Lib.hid v3
            have e18 : 16 * (max n (q + i) - n) = 16 * (q + i - n) := by omega
            rw [e18] at hM
            clear hol v3 hmx e18
            go_wp2_with (at_builtin; go_loud (refine wpList_append_lies _ rfl (.tmp 72) (.tmp 74) 28 rfl 0 3 ii (.int .i64 0) 1 8 Try.underlying28 hii hz0' hz1 hz2 rfl (by decide) _ _ _ rfl (o3.alloc _) ⟨wr.heap.size, 0, none⟩ 1 1 [.int .i64 (r : Int)] rfl rfl (World.news_of_block (by exact Blk.new (by simp))) (by simp [Value.oneCell']) (by decide) (by unfold maxLen; omega) (by omega) (Nat.zero_le _) _ rfl ?_))
            intro g3 k3 w2 own2 gr2 li2 lt2
            obtain ⟨R1, K1, F1, B2⟩ := hM.out.1.recs.appended (i := 3) V3.out rfl ((Kept.refl Nil wr).alloc _) own2 (by simp only [List.length_append, List.length_singleton, HOL.out]) gr2 (li2.imp id (fun e => by first | omega | (simp at e ⊢; omega)))
            have z3 := B2.cell 3
            rw [V3.out] at z3
            have zf := B2.frozen 3
            have zl := B2.lt
            rw [takeRows_own _ _ _ _ _ _ _ (by rw [← HN.out]; exact hfl) (by rw [← HN.out]; exact hin)] at R1
            have hnx := hM.out.1.next R1 K1 F1 (by simp only [List.length_set]; exact hM.out.1.len)
            have HNX := Lib.hid hnx
            clear R1 K1 F1 hnx own2 gr2 li2 q3 o3
            go_wp2_with fail
            go_loopw [11] (fun s11 W => ∃ j : Nat, j ≤ 16 ∧ s11 = .int .i64 (j : Int) ∧ ∃ vs', Hid (Mid wc sb vs (takeRows s all data q (i + 1) r (16 * (q + i - n) + j)) W vs' ∧ Same vs vs')) (fun s11 _ => 16 - (intOf s11).toNat)
            case atStart => exact ⟨0, by omega, rfl, _, HNX.out, hM.out.2.set (.inl rfl) _⟩
            case round =>
              clear zl zf z3 lb
              obtain ⟨j, hj, rfl, vs2, hM2⟩ := hrel
              have lb := hM2.out.1.recs.blk.lt
              by_cases hj16 : j < 16
              · obtain ⟨a7, c7, v7, q7, o7⟩ := hM2.out.1.recs.at 7 (e := 2) (xs := ints (zeros data (16 * (q + i - n) + j))) rfl
                have hol := ints_zeros data (16 * (q + i - n) + j)
                rw [← DL.out] at hol
                rw [hol] at v7 q7 o7
                have HOL := Lib.hid hol
                have V7 := Lib.hid v7
                clear hol v7
                go_wp2_with (at_builtin; go_loud (refine wpList_append_lies _ rfl (.tmp 86) (.tmp 87) 29 rfl 0 2 i6 (.int .i64 0) 1 8 Try.underlying29 hi6 hy0 hy1 hy2 rfl (by decide) _ _ _ rfl (o7.alloc _) ⟨wr.heap.size, 0, none⟩ 1 1 [.int .i64 0] rfl rfl (World.news_of_block (by exact Blk.new (by simp))) (by simp [Value.oneCell']) (by decide) (by unfold maxLen; omega) (by omega) (Nat.zero_le _) _ rfl ?_))
                intro g7 k7 w3 own3 gr3 li3 lt3
                obtain ⟨R1, K1, F1, B2⟩ := hM2.out.1.recs.appended (i := 7) V7.out rfl ((Kept.refl Nil wr).alloc _) own3 (by simp only [List.length_append, List.length_singleton, HOL.out]) gr3 (li3.imp id (fun e => by first | omega | (simp at e ⊢; omega)))
                have z3 := B2.cell 7
                rw [V7.out] at z3
                have zf := B2.frozen 7
                have zl := B2.lt
                rw [takeRows_data] at R1
                have hnx := hM2.out.1.next R1 K1 F1 (by simp only [List.length_set]; exact hM2.out.1.len)
                have HNX2 := Lib.hid hnx
                clear R1 K1 F1 hnx own3 gr3 li3 q7 o7
                go_wp2
                go_roundw
                case rel => exact ⟨j + 1, by omega, by go_num, _, HNX2.out, hM2.out.2.set (.inr rfl) _⟩
                case measure => simp [intOf]; omega
              · have hj' : 16 * (q + i - n) + j = 16 * (max n (q + (i + 1)) - n) := by omega
                rw [hj'] at hM2
                clear hj'
                go_wp2
                go_roundw
                case rel => exact ⟨i + 1, by omega, by go_num, vs2, hM2⟩
                case measure => simp [intOf]; omega
        · have hik' : i = k := by omega
          go_wp2
          go_ret
          refine ⟨rfl, vs', zeros data (16 * (max n (q + i) - n)), ?_, hM.out.2, ?_⟩
          · have := hM.out.1
            rw [hik'] at this ⊢
            exact this
          · have := hO.taken q k r (by rw [← HN.out]; exact hfl)
            rw [hik', HN.out]
            exact this
end Go.Proofs.Ytfoacgdahonapaa
