/- The statement on closed regions, walked: whatever the calls, it answers true and leaves what was there. -/
import Derived.Test.YtfoacgdahonapaaMain
namespace Go.Proofs.Ytfoacgdahonapaa
open Go.RowKit Abs
set_option linter.unusedVariables false

section
variable {SA : World → Addr → ASt → (Nat → Prop) → Prop}

set_option maxRecDepth 100000 in
set_option maxHeartbeats 1600000 in
theorem closed_many (L : StoreLaws SA) (w : World) (ao : Option Addr) (n cap : Nat) (hn : n ≤ maxLen) (h60 : ¬ n ≤ 60) :
    Calls Try.prog 5 #[.slice ao n cap] w fun e w' => e = .returned (.bool true) ∧ Kept Nil w w' := by
  have H := few_any ao n cap w hn
  have hd : decide (n ≤ 60) = false := by simp; omega
  rw [hd] at H
  have I := Lib.hid H
  clear H hd
  go_enter Try.func5, Try.ntmps5
  go_wp2_with fail
  refine I.out.mono ?_
  rintro e w' ⟨rfl, rfl⟩
  go_wp2_with fail
  refine (head_any L _).mono ?_
  rintro e w1 ⟨rfl, k⟩
  go_wp2
  go_ret
  exact ⟨rfl, k⟩

/-- At the head of a round: k calls are done. -/
def AtRound (SA : World → Addr → ASt → (Nat → Prop) → Prop) (w : World) (ub : Nat) (k : Nat) (W : World) : Prop :=
  ∃ u s large, UserAt SA W u s large w.heap.size ∧ u.ub = ub ∧ s.Good ∧ s.Within k ∧ Kept Nil w W

theorem AtRound.keep {w W W' : World} {ub k : Nat} (L : StoreLaws SA) (h : AtRound SA w ub k W) (hk : Kept Nil W W') : AtRound SA w ub k W' := by
  obtain ⟨u, s, large, h1, h2, h3, h4, h5⟩ := h
  exact ⟨u, s, large, UserAt.keep L h1 hk (fun i hi => hi.elim), h2, h3, h4, h5.trans hk⟩

set_option maxRecDepth 100000 in
set_option maxHeartbeats 3200000 in
theorem closed_few (L : StoreLaws SA) (w : World) (ao : Option Addr) (b off cap : Nat) (l : List OpV) (hl : Hid (OpsAt w b off l)) (n : Nat) (hao : Hid (0 < n → ao = some ⟨b, off, none⟩)) (hn : Hid (l.length = n)) (hcap : n ≤ cap) (h60 : n ≤ 60) :
    Calls Try.prog 5 #[.slice ao n cap] w fun e w' => e = .returned (.bool true) ∧ Kept Nil w w' := by
  have H := few_any ao n cap w (by unfold maxLen; omega)
  have hd : decide (n ≤ 60) = true := by simp; omega
  rw [hd] at H
  have I := Lib.hid H
  clear H hd
  go_enter Try.func5, Try.ntmps5
  go_wp2_with fail
  refine I.out.mono ?_
  rintro e w' ⟨rfl, rfl⟩
  go_wp2_with fail
  refine (L.new _).mono ?_
  rintro e w1 ⟨sp, rfl, F, hSA, hF, k1⟩
  have HF : ∀ k, F k → w'.heap.size ≤ k := fun k hk => (hF k hk).elim (fun f => f.elim) id
  have HFh := Lib.hid HF
  clear HF hF
  go_wp2_with fail
  obtain ⟨ub, hub⟩ : ∃ ub, ub = w1.heap.size := ⟨_, rfl⟩
  have R0 : AtRound SA w' ub 0 (w1.alloc (.cells #[.pointer (some sp), .int .i64 0, .slice none 0 0, .slice none 0 0, .bool false] 45)) :=
    ⟨_, _, _, user_new L hSA HFh.out k1.size ((Kept.refl _ _).alloc _) (Blk.new rfl), hub.symm, good_empty, within_empty 0, (k1.alloc _)⟩
  rw [← hub]
  clear hub hSA k1
  go_loopw [4] (fun s4 W => ∃ k : Nat, k ≤ n ∧ s4 = .int .i64 (k : Int) ∧ AtRound SA w' ub k W) (fun s4 _ => n - (intOf s4).toNat)
  case atStart => exact ⟨0, Nat.zero_le _, rfl, R0⟩
  case round =>
    obtain ⟨k, hk, rfl, u, s, large, hU, hub, hG, hW, hK⟩ := hrel
    have HU := Lib.hid hub
    clear R0 hub
    by_cases hlt : k < n
    · obtain ⟨o, ho⟩ : ∃ o, l[k]? = some o := ⟨l[k]'(by rw [hn.out]; exact hlt), List.getElem?_eq_getElem _⟩
      obtain ⟨ok, a0, a1, a2, a3, a4, a5⟩ := hl.out k o ho
      have eao := hao.out (by omega)
      subst eao
      have c0 := hK.cell a0 id
      have c1 := hK.cell a1 id
      have c2 := hK.cell a2 id
      have c3 := hK.cell a3 id
      have c4 := hK.cell a4 id
      have c5 := hK.cell a5 id
      clear a0 a1 a2 a3 a4 a5
      have HO := Lib.hid ho
      clear ho
      go_wp2_with fail
      have C := with_any L hU hG (hW.mono (by omega)) ok.d0 ok.d1 ok.r ok.n ok.a ok.f ok.v
      rw [HU.out] at C
      refine C.mono ?_
      clear C
      rintro e w2 ⟨rfl, y2, hU2, hub2, hk2⟩
      rw [HU.out] at hub2
      have hG2 := good_step (large := large) (d := o.d) (r := o.r) (n := o.n) (a := o.a) (f := o.f) (v := o.v) hG
      have hW2 := within_step (large := large) (d := o.d) (r := o.r) (n := o.n) (a := o.a) (f := o.f) (v := o.v) hW
      generalize (step s large o.d o.r o.n o.a o.f o.v).1 = s2 at hU2 hG2 hW2
      generalize (step s large o.d o.r o.n o.a o.f o.v).2 = large2 at hU2
      have K2 : Kept Nil w' w2 := hK.next hk2 (fun i hi => .inr (hU.base i hi))
      have M2 := hW2.many
      clear hk2 c0 c1 c2 c3 c4 c5 ok
      have HUB := Lib.hid hub2
      clear hub2 hU hG hW hK
      go_wp2_with fail
      go_loopw [5] (fun s5 W => ∃ m : Nat, m ≤ s2.many ∧ s5 = .int .i64 (m : Int) ∧ ∃ y3 : UData, UserAt SA W y3 s2 large2 w'.heap.size ∧ y3.ub = ub ∧ Kept Nil w' W) (fun s5 _ => s2.many - (intOf s5).toNat)
      case atStart => exact ⟨0, Nat.zero_le _, rfl, y2, hU2, HUB.out, K2⟩
      case round =>
        clear hU2 HUB K2 y2
        obtain ⟨m, hm, rfl, y3, hU3, hub3, K3⟩ := hrel
        obtain ⟨w3, rfl⟩ : ∃ w3 : World, w3 = wr := ⟨_, rfl⟩
        obtain ⟨oa, oc, hov⟩ := row_form hU3.opens
        have hb := hU3.blk
        have hrow := hU3.opens
        rw [hov] at hb hrow
        rw [hub3] at hb
        have HB3 := Lib.hid hub3
        clear hub3
        have q0 := hb.cell 0
        have q1 := hb.cell 1
        have q2 := hb.cell 2
        simp only [List.getElem?_cons_zero, List.getElem?_cons_succ] at q0 q1 q2
        have lu := hb.lt
        have HV := Lib.hid hov
        have OL := hW2.opens
        clear hov
        by_cases hmlt : m < s2.many
        · go_wp2_with fail
          go_loop [6, 7] (fun s6 s7 => ∃ j : Nat, j ≤ s2.opens.length ∧ s7 = .int .i64 (j : Int) ∧ s6 = .bool (decide (m ∈ s2.opens.take j))) (fun _ s7 => s2.opens.length - (intOf s7).toNat)
          case atStart => exact ⟨0, Nat.zero_le _, rfl, by simp⟩
          case round =>
            obtain ⟨j, hj, rfl, rfl⟩ := hrel
            by_cases hjl : j < s2.opens.length
            · obtain ⟨ob, cap', hq, hob, _, _, hcells⟩ := row_some hrow (by omega)
              have hoa : oa = some ⟨ob, 0, none⟩ := by simp only [Value.slice.injEq, true_and] at hq; exact hq.1
              have q2' := q2
              rw [hoa] at q2'
              have cj := hcells j (by omega)
              rw [List.getElem?_map, List.getElem?_eq_getElem hjl] at cj
              simp only [Option.map_some] at cj
              obtain ⟨z, hz⟩ : ∃ z, z = s2.opens[j] := ⟨_, rfl⟩
              rw [← hz] at cj
              have HZ := Lib.hid hz
              have HA := Lib.hid hoa
              have Q2 := Lib.hid q2
              clear hz hoa hq hcells q2
              have htake : s2.opens.take (j + 1) = s2.opens.take j ++ [z] := by rw [List.take_succ_eq_append_getElem hjl, HZ.out]
              have HT := Lib.hid htake
              clear htake
              by_cases hmem : m ∈ s2.opens.take j
              · have hd : decide (m ∈ s2.opens.take j) = true := by simpa using hmem
                rw [hd]
                have HD := Lib.hid hd
                clear hd
                go_wp2
                go_round
                case rel => exact ⟨j + 1, by omega, by go_num, by rw [HT.out]; simp [hmem]⟩
                case measure => simp [intOf]; omega
              · have hd : decide (m ∈ s2.opens.take j) = false := by simpa using hmem
                rw [hd]
                have HD := Lib.hid hd
                have HM := Lib.hid hmem
                clear hd hmem
                have ht : decide (m ∈ s2.opens.take (j + 1)) = ((z : Int) == (m : Int)) := by
                  rw [HT.out]
                  have := HM.out
                  rw [Bool.eq_iff_iff]
                  simp [this]
                  omega
                have HT2 := Lib.hid ht
                clear ht
                go_wp2
                go_round
                case rel => exact ⟨j + 1, by omega, by go_num, by rw [HT2.out]⟩
                case measure => simp [intOf]; omega
            · have hjn : s2.opens.take j = s2.opens := List.take_of_length_le (by omega)
              rw [hjn]
              have HJ := Lib.hid hjn
              clear hjn
              by_cases hmem : m ∈ s2.opens
              · have hd : decide (m ∈ s2.opens) = true := by simpa using hmem
                rw [hd]
                clear hd hmem
                go_wp2
                go_roundw
                case rel => exact ⟨m + 1, by omega, by go_num, y3, hU3, HB3.out, K3⟩
                case measure => simp [intOf]; omega
              · have hd : decide (m ∈ s2.opens) = false := by simpa using hmem
                rw [hd]
                have HM := Lib.hid hmem
                clear hd hmem
                have hnot : ¬ s2.isOpen (m : Int) := fun h => HM.out (by simpa using h.2)
                have HN := Lib.hid hnot
                clear hnot
                have iM : I64 (m : Int) := ⟨by omega, by omega⟩
                have A1 := L.unmade hU3.store hG2 (hW2.mono (by omega)) (m : Int) 1 iM (i64_small _ (by omega) (by omega)) (.inl HN.out)
                rw [if_neg HN.out] at A1
                have J1 := Lib.hid A1
                clear A1
                go_wp2_with fail
                refine J1.out.mono ?_
                rintro e w4 ⟨rfl, k4⟩
                clear J1
                have hU4 := UserAt.keep L hU3 k4 (fun i hi => hi.elim)
                have A2 := L.got hU4.store hG2 (hW2.mono (by omega)) (m : Int) 0 0 iM (i64_small _ (by omega) (by omega)) (i64_small _ (by omega) (by omega))
                rw [asked_shut HN.out] at A2
                have J2 := Lib.hid A2
                clear A2
                have q04 := k4.cell q0 id
                have lu4 := World.block_lt_of_cell? _ _ q04
                simp only at lu4
                go_wp2_with fail
                refine J2.out.mono ?_
                rintro e w5 ⟨rfl, k5⟩
                clear J2
                have hU5 := UserAt.keep L hU4 k5 (fun i hi => hi.elim)
                have A3 := L.stored hU5.store hG2 (hW2.mono (by omega)) (m : Int) 0 0 1 iM (i64_small _ (by omega) (by omega)) (i64_small _ (by omega) (by omega)) (i64_small _ (by omega) (by omega))
                rw [asked_shut HN.out] at A3
                have hst : s2.stored (m : Int) 0 0 1 = s2 := by unfold ASt.stored; rw [if_neg (by rw [asked_shut HN.out]; omega)]
                rw [hst] at A3
                have J3 := Lib.hid A3
                clear A3 hst
                have q05 := k5.cell q04 id
                have lu5 := World.block_lt_of_cell? _ _ q05
                simp only at lu5
                go_wp2_with fail
                refine J3.out.mono ?_
                rintro e w6 ⟨rfl, hNow⟩
                clear J3
                have k6 : Kept y3.F w5 w6 := by obtain ⟨_, _, _, k⟩ := hNow; exact k
                obtain ⟨F6, hU6⟩ := UserAt.now L hU5 hNow
                have q06 := k6.cell q05 (by have := hU3.ubF; rw [HB3.out] at this; exact this)
                have lu6 := World.block_lt_of_cell? _ _ q06
                simp only at lu6
                have A4 := L.shut hU6.store hG2 (hW2.mono (by omega)) (m : Int) iM HN.out
                have J4 := Lib.hid A4
                clear A4 hNow
                go_wp2_with fail
                refine J4.out.mono ?_
                rintro e w7 ⟨rfl, k7⟩
                clear J4
                have hU7 := UserAt.keep L hU6 k7 (fun i hi => hi.elim)
                have K7 : Kept Nil w' w7 := (((K3.trans k4).trans k5).next k6 (fun i hi => .inr (hU3.base i (.inr (.inr (.inr (.inr hi))))))).trans k7
                go_wp2
                go_roundw
                case rel => exact ⟨m + 1, by omega, by go_num, _, hU7, HB3.out, K7⟩
                case measure => simp [intOf]; omega
        · go_wp2
          go_roundw
          case rel => exact ⟨k + 1, by omega, by go_num, y3, s2, large2, hU3, HB3.out, hG2, hW2, K3⟩
          case measure => simp [intOf]; omega
    · go_wp2_with fail
      refine (head_any L _).mono ?_
      rintro e w9 ⟨rfl, k9⟩
      go_wp2
      go_ret
      exact ⟨rfl, hK.trans k9⟩
end
end Go.Proofs.Ytfoacgdahonapaa
