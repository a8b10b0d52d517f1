/- The statement on what is kept, walked: whatever the calls, it answers true and leaves what was there. -/
import Derived.Test.YtfoacgdahonapaaClosed
import Derived.Test.YtfoacgdahonapaaApart
import Derived.Test.YtfoacgdahonapaaSame
namespace Go.Proofs.Ytfoacgdahonapaa
open Go.RowKit Abs
set_option linter.unusedVariables false

/-- The words of the first j cells. -/
def wordsTo (s : ASt) (j : Nat) : Nat := ((s.cells.take j).map (·.ws.length)).sum

theorem wordsTo_succ {s : ASt} {j : Nat} {c : ACell} (h : s.cells[j]? = some c) : wordsTo s (j + 1) = wordsTo s j + c.ws.length := by
  unfold wordsTo
  obtain ⟨hj, rfl⟩ := List.getElem?_eq_some_iff.1 h
  rw [List.take_succ_eq_append_getElem hj, List.map_append, List.sum_append]
  simp

theorem wordsTo_all {s : ASt} {j : Nat} (h : s.cells.length ≤ j) : wordsTo s j = s.words := by
  unfold wordsTo ASt.words; rw [List.take_of_length_le h]

theorem wordsTo_le {s : ASt} (h : ∀ c ∈ s.cells, c.ws.length ≤ 4097) (j : Nat) : wordsTo s j ≤ 4097 * j := by
  induction j with
  | zero => simp [wordsTo]
  | succ j ih =>
    by_cases hj : j < s.cells.length
    · rw [wordsTo_succ (List.getElem?_eq_getElem hj)]
      have := h _ (List.getElem_mem hj)
      omega
    · have : wordsTo s (j + 1) = wordsTo s j := by
        unfold wordsTo
        rw [List.take_of_length_le (by omega), List.take_of_length_le (by omega)]
      omega

section
variable {SA : World → Addr → ASt → (Nat → Prop) → Prop}

set_option maxRecDepth 100000 in
set_option maxHeartbeats 1600000 in
theorem keeps_many (L : StoreLaws SA) (w : World) (ao : Option Addr) (n cap : Nat) (hn : n ≤ maxLen) (h60 : ¬ n ≤ 60) :
    Calls Try.prog 4 #[.slice ao n cap] w fun e w' => e = .returned (.bool true) ∧ Kept Nil w w' := by
  have H := few_any ao n cap w hn
  have hd : decide (n ≤ 60) = false := by simp; omega
  rw [hd] at H
  have I := Lib.hid H
  clear H hd
  go_enter Try.func4, Try.ntmps4
  go_wp2_with fail
  refine I.out.mono ?_
  rintro e w' ⟨rfl, rfl⟩
  go_wp2_with fail
  refine (head_any L _).mono ?_
  rintro e w1 ⟨rfl, k⟩
  go_wp2
  go_ret
  exact ⟨rfl, k⟩

set_option maxRecDepth 100000 in
set_option maxHeartbeats 3200000 in
theorem keeps_few (L : StoreLaws SA) (w : World) (ao : Option Addr) (b off cap : Nat) (l : List OpV) (hl : Hid (OpsAt w b off l)) (n : Nat) (hao : Hid (0 < n → ao = some ⟨b, off, none⟩)) (hn : Hid (l.length = n)) (hcap : n ≤ cap) (h60 : n ≤ 60) :
    Calls Try.prog 4 #[.slice ao n cap] w fun e w' => e = .returned (.bool true) ∧ Kept Nil w w' := by
  have H := few_any ao n cap w (by unfold maxLen; omega)
  have hd : decide (n ≤ 60) = true := by simp; omega
  rw [hd] at H
  have I := Lib.hid H
  clear H hd
  go_enter Try.func4, Try.ntmps4
  go_wp2_with fail
  refine I.out.mono ?_
  rintro e w' ⟨rfl, rfl⟩
  go_wp2_with fail
  refine (L.new _).mono ?_
  rintro e w1 ⟨sp, rfl, F, hSA, hF, k1⟩
  have HF : ∀ k, F k → w'.heap.size ≤ k := fun k hk => (hF k hk).elim (fun f => f.elim) id
  have HFh := Lib.hid HF
  clear HF hF
  go_wp2_with fail
  obtain ⟨ub, hub⟩ : ∃ ub, ub = w1.heap.size := ⟨_, rfl⟩
  have R0 : AtRound SA w' ub 0 (w1.alloc (.cells #[.pointer (some sp), .int .i64 0, .slice none 0 0, .slice none 0 0, .bool false] 45)) :=
    ⟨_, _, _, user_new L hSA HFh.out k1.size ((Kept.refl _ _).alloc _) (Blk.new rfl), hub.symm, good_empty, within_empty 0, (k1.alloc _)⟩
  rw [← hub]
  clear hub hSA k1
  go_loopw [4] (fun s4 W => ∃ k : Nat, k ≤ n ∧ s4 = .int .i64 (k : Int) ∧ AtRound SA w' ub k W) (fun s4 _ => n - (intOf s4).toNat)
  case atStart => exact ⟨0, Nat.zero_le _, rfl, R0⟩
  case round =>
    obtain ⟨k, hk, rfl, u, s, large, hU, hub, hG, hW, hK⟩ := hrel
    have HU := Lib.hid hub
    clear R0 hub
    by_cases hlt : k < n
    · obtain ⟨o, ho⟩ : ∃ o, l[k]? = some o := ⟨l[k]'(by rw [hn.out]; exact hlt), List.getElem?_eq_getElem _⟩
      obtain ⟨ok, a0, a1, a2, a3, a4, a5⟩ := hl.out k o ho
      have eao := hao.out (by omega)
      subst eao
      have c0 := hK.cell a0 id
      have c1 := hK.cell a1 id
      have c2 := hK.cell a2 id
      have c3 := hK.cell a3 id
      have c4 := hK.cell a4 id
      have c5 := hK.cell a5 id
      clear a0 a1 a2 a3 a4 a5
      have HO := Lib.hid ho
      clear ho
      go_wp2_with fail
      have C := with_any L hU hG (hW.mono (by omega)) ok.d0 ok.d1 ok.r ok.n ok.a ok.f ok.v
      rw [HU.out] at C
      refine C.mono ?_
      clear C
      rintro e w2 ⟨rfl, y2, hU2, hub2, hk2⟩
      rw [HU.out] at hub2
      have hG2 := good_step (large := large) (d := o.d) (r := o.r) (n := o.n) (a := o.a) (f := o.f) (v := o.v) hG
      have hW2 := within_step (large := large) (d := o.d) (r := o.r) (n := o.n) (a := o.a) (f := o.f) (v := o.v) hW
      generalize (step s large o.d o.r o.n o.a o.f o.v).1 = s2 at hU2 hG2 hW2
      generalize (step s large o.d o.r o.n o.a o.f o.v).2 = large2 at hU2
      have K2 : Kept Nil w' w2 := hK.next hk2 (fun i hi => .inr (hU.base i hi))
      clear hk2 c0 c1 c2 c3 c4 c5 ok
      have HUB := Lib.hid hub2
      clear hub2 hU hG hW hK
      obtain ⟨ca, cc, hcv⟩ := row_form hU2.cells
      have hrow := hU2.cells
      have hb := hU2.blk
      rw [hcv, HUB.out] at hb
      rw [hcv] at hrow
      have q0 := hb.cell 0
      have q3 := hb.cell 3
      simp only [List.getElem?_cons_zero, List.getElem?_cons_succ] at q0 q3
      have lu := hb.lt
      have hcl := hW2.cells
      have hlen : y2.cs.length = s2.cells.length := by rw [← hU2.same, List.length_map]
      have HLEN := Lib.hid hlen
      have HCV := Lib.hid hcv
      have ap := apart_any w2 .nilIface ca s2.cells.length cc y2.cs hlen (by omega) hrow (by show (y2.cs.map (·.1)).Pairwise _; rw [hU2.same]; exact hG2.far) (by
        intro x hx
        have hxm : x.1 ∈ s2.cells := by rw [← hU2.same]; exact List.mem_map.2 ⟨x, hx, rfl⟩
        have h1 := hG2.pos x.1 hxm
        have h2 := (List.getElem?_eq_some_iff.1 (hG2.paged x.1 hxm x.1.addr (Nat.le_refl _) (by omega))).1
        have h3 := hW2.owner
        exact ⟨by omega, hW2.wide x.1 hxm⟩)
      have AP := Lib.hid ap
      clear ap hlen hcv
      go_wp2_with fail
      refine AP.out.mono ?_
      rintro e w3 ⟨rfl, k3⟩
      have K3 := K2.trans k3
      have hU3 := UserAt.keep L hU2 k3 (fun i hi => hi.elim)
      clear hU2 hb hrow q0 q3 lu AP K2 k3
      go_wp2_with fail
      go_loopw [5, 6] (fun s5 s6 W => ∃ j : Nat, j ≤ s2.cells.length ∧ s6 = .int .i64 (j : Int) ∧ s5 = .int .i64 (wordsTo s2 j : Int) ∧ UserAt SA W y2 s2 large2 w'.heap.size ∧ Kept Nil w' W) (fun _ s6 _ => s2.cells.length - (intOf s6).toNat)
      case atStart => exact ⟨0, Nat.zero_le _, rfl, by simp [wordsTo], hU3, K3⟩
      case round =>
        clear hU3 K3
        obtain ⟨j, hj, rfl, rfl, hU4, K4⟩ := hrel
        have hwl := wordsTo_le (s := s2) hW2.wide j
        have hrow := hU4.cells
        have hb := hU4.blk
        rw [HCV.out, HUB.out] at hb
        rw [HCV.out] at hrow
        have q0 := hb.cell 0
        have q3 := hb.cell 3
        simp only [List.getElem?_cons_zero, List.getElem?_cons_succ] at q0 q3
        have lu := hb.lt
        by_cases hjl : j < s2.cells.length
        · obtain ⟨g, cap', hq, hg, _, _, hcells⟩ := row_some hrow (by omega)
          have hca : ca = some ⟨g, 0, none⟩ := by simp only [Value.slice.injEq, true_and] at hq; exact hq.1
          obtain ⟨x, hx⟩ : ∃ x, y2.cs[j]? = some x := ⟨y2.cs[j]'(by rw [HLEN.out]; exact hjl), List.getElem?_eq_getElem _⟩
          have px0 : wr.cell? ⟨g, j * 3, none⟩ = some (.int .i64 (x.1.reg : Int)) := (hcells (j * 3 + 0) (by omega)).trans ((flat_get y2.cs j 0 (by omega)).trans (by rw [hx]; rfl))
          have px1 : wr.cell? ⟨g, j * 3 + 1, none⟩ = some (.int .i64 (x.1.addr : Int)) := (hcells (j * 3 + 1) (by omega)).trans ((flat_get y2.cs j 1 (by omega)).trans (by rw [hx]; rfl))
          have px2 : wr.cell? ⟨g, j * 3 + 2, none⟩ = some (.slice (some ⟨x.2, 0, none⟩) x.1.ws.length x.1.ws.length) := (hcells (j * 3 + 2) (by omega)).trans ((flat_get y2.cs j 2 (by omega)).trans (by rw [hx]; rfl))
          have hxc : s2.cells[j]? = some x.1 := by
            conv => lhs; rw [← hU4.same]
            rw [List.getElem?_map, hx]; rfl
          have hxm : x.1 ∈ s2.cells := List.mem_of_getElem? hxc
          have hws := wordsTo_succ hxc
          have hwide := hW2.wide x.1 hxm
          have SM : Hid (∀ W, Kept Nil wr W → Calls Try.prog 29 #[.pointer (some y2.sp), .agg #[.int .i64 (x.1.reg : Int), .int .i64 (x.1.addr : Int), .slice (some ⟨x.2, 0, none⟩) x.1.ws.length x.1.ws.length]] W fun e w' => e = .returned (.bool true) ∧ Kept Nil W w') := fun W kW => by
            have hU5 := UserAt.keep L hU4 kW (fun i hi => hi.elim)
            exact same_any L hU5.store hG2 (hW2.mono (by omega)) hxm x.2 (hU5.fields x (List.mem_of_getElem? hx))
          obtain ⟨xr, xa, xl, xb, hxa⟩ : ∃ xr xa xl xb, xr = x.1.reg ∧ xa = x.1.addr ∧ xl = x.1.ws.length ∧ xb = x.2 := ⟨_, _, _, _, rfl, rfl, rfl, rfl⟩
          rw [← hxa.1, ← hxa.2.1, ← hxa.2.2.1, ← hxa.2.2.2] at SM
          rw [← hxa.1] at px0
          rw [← hxa.2.1] at px1
          rw [← hxa.2.2.1, ← hxa.2.2.2] at px2
          rw [← hxa.2.2.1] at hws hwide
          have q3' := q3
          rw [hca] at q3'
          have Q3 := Lib.hid q3
          have HC := Lib.hid hca
          have HWS := Lib.hid hws
          have HX := Lib.hid hx
          have b1 : (j : Int) < s2.cells.length := by omega
          have b2 : (0 : Int) ≤ j := by omega
          clear q3 hca hws hx hxc hxa hcells hq
          go_wp2_with fail
          go_region_held3 (fun W => W.cell? ⟨ub, 0, none⟩ = some (.pointer (some y2.sp)) ∧ W.cell? ⟨ub, 3, none⟩ = some (.slice (some ⟨g, 0, none⟩) s2.cells.length cc) ∧
            W.cell? ⟨g, j * 3, none⟩ = some (.int .i64 (xr : Int)) ∧ W.cell? ⟨g, j * 3 + 1, none⟩ = some (.int .i64 (xa : Int)) ∧ W.cell? ⟨g, j * 3 + 2, none⟩ = some (.slice (some ⟨xb, 0, none⟩) xl xl))
            (first | go_keep | (go_split_ands; exact ⟨k5.cell (by assumption) id, k5.cell (by assumption) id, k5.cell (by assumption) id, k5.cell (by assumption) id, k5.cell (by assumption) id⟩))
            (first | (go_at_call 29; refine (SM.out _ (Kept.drew (Kept.refl _ _))).mono ?_; rintro e w5 ⟨rfl, k5⟩))
          rename_i hHeld
          clear hHeld
          have K5 : Kept Nil wr w5 := (Kept.drew (Kept.refl _ _)).trans k5
          have q5 := K5.cell q3' id
          have p5 := K5.cell px2 id
          have l5 := World.block_lt_of_cell? _ _ q5
          have l6 := World.block_lt_of_cell? _ _ p5
          simp only at l5 l6
          clear q3' q0 px0 px1 px2 SM
          go_wp2
          go_roundw
          case rel => exact ⟨j + 1, by omega, by go_num, by rw [HWS.out]; go_num, UserAt.keep L hU4 K5 (fun i hi => hi.elim), K4.trans K5⟩
          case measure => simp [intOf]; omega
        · have hall := wordsTo_all (s := s2) (j := j) (by omega)
          rw [hall]
          have hWd := L.words hU4.store hG2 (hW2.mono (by omega))
          have WD := Lib.hid hWd
          clear hWd hall
          go_wp2_with fail
          refine WD.out.mono ?_
          rintro e w6 ⟨rfl, k6⟩
          have e6 : ((s2.words : Int) != (s2.words : Int)) = false := by simp
          go_wp2
          go_roundw
          case rel => exact ⟨k + 1, by omega, by go_num, y2, s2, large2, UserAt.keep L hU4 k6 (fun i hi => hi.elim), HUB.out, hG2, hW2, K4.trans k6⟩
          case measure => simp [intOf]; omega
    · go_wp2_with fail
      refine (head_any L _).mono ?_
      rintro e w9 ⟨rfl, k9⟩
      go_wp2
      go_ret
      exact ⟨rfl, hK.trans k9⟩
end
end Go.Proofs.Ytfoacgdahonapaa
