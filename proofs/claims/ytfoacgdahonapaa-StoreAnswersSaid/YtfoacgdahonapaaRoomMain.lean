/- The statement on room, walked: whatever the calls, it answers true and leaves what was there. -/
import Derived.Test.YtfoacgdahonapaaClosed
import Derived.Test.YtfoacgdahonapaaRoom
namespace Go.Proofs.Ytfoacgdahonapaa
open Go.RowKit Abs
set_option linter.unusedVariables false

theorem roomOf_le (l : List ACell) (r : Nat) (hn : l.length ≤ 200) (h : ∀ c ∈ l, c.ws.length ≤ 4097) : roomOf l r ≤ 60000 := by
  have h1 := sumBy_bound l r smallW 16 (fun c _ => by unfold smallW; split <;> omega)
  have h2 := sumBy_bound l r largeP 257 (fun c hc => by have := h c hc; unfold largeP; split <;> omega)
  unfold roomOf
  split <;> omega

/-- The room of the first j regions. -/
def roomTo (s : ASt) (j : Nat) : Nat := ((s.opens.take j).map (roomOf s.cells)).sum

theorem roomTo_succ {s : ASt} {j r : Nat} (h : s.opens[j]? = some r) : roomTo s (j + 1) = roomTo s j + roomOf s.cells r := by
  unfold roomTo
  obtain ⟨hj, rfl⟩ := List.getElem?_eq_some_iff.1 h
  rw [List.take_succ_eq_append_getElem hj, List.map_append, List.sum_append]
  simp

theorem roomTo_le {s : ASt} (hn : s.cells.length ≤ 200) (h : ∀ c ∈ s.cells, c.ws.length ≤ 4097) (j : Nat) : roomTo s j ≤ 60000 * j := by
  induction j with
  | zero => simp [roomTo]
  | succ j ih =>
    by_cases hj : j < s.opens.length
    · rw [roomTo_succ (List.getElem?_eq_getElem hj)]
      have := roomOf_le s.cells (s.opens[j]) hn h
      omega
    · have : roomTo s (j + 1) = roomTo s j := by
        unfold roomTo
        rw [List.take_of_length_le (by omega), List.take_of_length_le (by omega)]
      omega

theorem roomTo_all {s : ASt} {j : Nat} (h : s.opens.length ≤ j) : roomTo s j = (s.opens.map (roomOf s.cells)).sum := by
  unfold roomTo; rw [List.take_of_length_le h]

section
variable {SA : World → Addr → ASt → (Nat → Prop) → Prop}

/-- The three counts only read. -/
structure QuietCounts (SA : World → Addr → ASt → (Nat → Prop) → Prop) : Prop where
  words : ∀ {w sp s F}, SA w sp s F → s.Good → s.Within 200 →
    Calls Try.prog 21 #[.pointer (some sp)] w fun e w' => e = .returned (.int .i64 s.words) ∧ ∃ m, w' = w.drewN m
  pages : ∀ {w sp s F}, SA w sp s F → s.Good → s.Within 200 →
    Calls Try.prog 23 #[.pointer (some sp)] w fun e w' => e = .returned (.int .i64 s.pages) ∧ ∃ m, w' = w.drewN m
  free : ∀ {w sp s F}, SA w sp s F → s.Good → s.Within 200 →
    Calls Try.prog 25 #[.pointer (some sp)] w fun e w' => e = .returned (.int .i64 s.free) ∧ ∃ m, w' = w.drewN m

/-- At the head of a round: k calls are done; most is the greatest number of pages so far. -/
def AtRoom (SA : World → Addr → ASt → (Nat → Prop) → Prop) (w : World) (ub : Nat) (k most : Nat) (W : World) : Prop :=
  ∃ u s large, UserAt SA W u s large w.heap.size ∧ u.ub = ub ∧ s.Good ∧ s.Within k ∧ Kept Nil w W ∧ ∃ m, RoomOk s large most m ∧ most ≤ 257 * k

theorem room_step {s : ASt} {large : Bool} {most : Nat} {m : Nat → Nat} {d r n a f v : Int} (g : s.Good) (h : RoomOk s large most m) :
    ∃ m', RoomOk (step s large d r n a f v).1 (step s large d r n a f v).2 (max most (step s large d r n a f v).1.pages) m' := by
  have still : ∃ m', RoomOk s large (max most s.pages) m' := by
    refine ⟨m, h.1, h.2.1, h.2.2.1, fun hl => ?_⟩
    have h1 := h.2.2.2 hl
    have h2 := pages_le s
    omega
  unfold step
  split
  · exact room_opened g h
  · rename_i h1
    have ho : s.opens ≠ [] := fun e => h1 (.inr e)
    have hp := pick_lt r (List.length_pos_iff.2 ho)
    have hm : s.opens.getD (pick r s.opens.length) 0 ∈ s.opens := by
      rw [List.getD_eq_getElem?_getD, List.getElem?_eq_getElem hp]; exact List.getElem_mem _
    simp only
    split
    · exact room_closed g h _
    · split
      · exact room_made g h hm (by omega)
      · split
        · exact still
        · split
          · exact still
          · exact room_stored h _ _ _ _

set_option maxRecDepth 100000 in
set_option maxHeartbeats 1600000 in
theorem room_many (L : StoreLaws SA) (w : World) (ao : Option Addr) (n cap : Nat) (hn : n ≤ maxLen) (h60 : ¬ n ≤ 60) :
    Calls Try.prog 6 #[.slice ao n cap] w fun e w' => e = .returned (.bool true) ∧ Kept Nil w w' := by
  have H := few_any ao n cap w hn
  have hd : decide (n ≤ 60) = false := by simp; omega
  rw [hd] at H
  have I := Lib.hid H
  clear H hd
  go_enter Try.func6, Try.ntmps6
  go_wp2_with fail
  refine I.out.mono ?_
  rintro e w' ⟨rfl, rfl⟩
  go_wp2_with fail
  refine (head_any L _).mono ?_
  rintro e w1 ⟨rfl, k⟩
  go_wp2
  go_ret
  exact ⟨rfl, k⟩

set_option maxRecDepth 100000 in
set_option maxHeartbeats 3200000 in
theorem room_few (L : StoreLaws SA) (Q : QuietCounts SA) (w : World) (ao : Option Addr) (b off cap : Nat) (l : List OpV) (hl : Hid (OpsAt w b off l)) (n : Nat) (hao : Hid (0 < n → ao = some ⟨b, off, none⟩)) (hn : Hid (l.length = n)) (hcap : n ≤ cap) (h60 : n ≤ 60) :
    Calls Try.prog 6 #[.slice ao n cap] w fun e w' => e = .returned (.bool true) ∧ Kept Nil w w' := by
  have H := few_any ao n cap w (by unfold maxLen; omega)
  have hd : decide (n ≤ 60) = true := by simp; omega
  rw [hd] at H
  have I := Lib.hid H
  clear H hd
  go_enter Try.func6, Try.ntmps6
  go_wp2_with fail
  refine I.out.mono ?_
  rintro e w' ⟨rfl, rfl⟩
  go_wp2_with fail
  refine (L.new _).mono ?_
  rintro e w1 ⟨sp, rfl, F, hSA, hF, k1⟩
  have HF : ∀ k, F k → w'.heap.size ≤ k := fun k hk => (hF k hk).elim (fun f => f.elim) id
  have HFh := Lib.hid HF
  clear HF hF
  go_wp2_with fail
  obtain ⟨ub, hub⟩ : ∃ ub, ub = w1.heap.size := ⟨_, rfl⟩
  have R0 : AtRoom SA w' ub 0 0 (w1.alloc (.cells #[.pointer (some sp), .int .i64 0, .slice none 0 0, .slice none 0 0, .bool false] 45)) :=
    ⟨_, _, _, user_new L hSA HFh.out k1.size ((Kept.refl _ _).alloc _) (Blk.new rfl), hub.symm, good_empty, within_empty 0, (k1.alloc _), _, room_empty, by omega⟩
  rw [← hub]
  clear hub hSA k1
  go_loopw [4, 5] (fun s4 s5 W => ∃ k most : Nat, k ≤ n ∧ s5 = .int .i64 (k : Int) ∧ s4 = .int .i64 (most : Int) ∧ AtRoom SA w' ub k most W) (fun _ s5 _ => n - (intOf s5).toNat)
  case atStart => exact ⟨0, 0, Nat.zero_le _, rfl, rfl, R0⟩
  case round =>
    obtain ⟨k, most, hk, rfl, rfl, u, s, large, hU, hub, hG, hW, hK, m, hR, hmost⟩ := hrel
    have HU := Lib.hid hub
    clear R0 hub
    by_cases hlt : k < n
    · obtain ⟨o, ho⟩ : ∃ o, l[k]? = some o := ⟨l[k]'(by rw [hn.out]; exact hlt), List.getElem?_eq_getElem _⟩
      obtain ⟨ok, a0, a1, a2, a3, a4, a5⟩ := hl.out k o ho
      have eao := hao.out (by omega)
      subst eao
      have c0 := hK.cell a0 id
      have c1 := hK.cell a1 id
      have c2 := hK.cell a2 id
      have c3 := hK.cell a3 id
      have c4 := hK.cell a4 id
      have c5 := hK.cell a5 id
      clear a0 a1 a2 a3 a4 a5
      have HO := Lib.hid ho
      clear ho
      go_wp2_with fail
      have C := with_any L hU hG (hW.mono (by omega)) ok.d0 ok.d1 ok.r ok.n ok.a ok.f ok.v
      rw [HU.out] at C
      refine C.mono ?_
      clear C
      rintro e w2 ⟨rfl, y2, hU2, hub2, hk2⟩
      rw [HU.out] at hub2
      have hG2 := good_step (large := large) (d := o.d) (r := o.r) (n := o.n) (a := o.a) (f := o.f) (v := o.v) hG
      have hW2 := within_step (large := large) (d := o.d) (r := o.r) (n := o.n) (a := o.a) (f := o.f) (v := o.v) hW
      have hR2 := room_step (d := o.d) (r := o.r) (n := o.n) (a := o.a) (f := o.f) (v := o.v) hG hR
      generalize (step s large o.d o.r o.n o.a o.f o.v).1 = s2 at hU2 hG2 hW2 hR2
      generalize (step s large o.d o.r o.n o.a o.f o.v).2 = large2 at hU2 hR2
      obtain ⟨m2, hR2⟩ := hR2
      have K2 : Kept Nil w' w2 := hK.next hk2 (fun i hi => .inr (hU.base i hi))
      clear hk2 c0 c1 c2 c3 c4 c5 ok
      have HUB := Lib.hid hub2
      clear hub2 hU hG hW hK hR
      obtain ⟨ca, cc, hcv⟩ := row_form hU2.cells
      obtain ⟨oa, oc, hov⟩ := row_form hU2.opens
      have hcl := hW2.cells
      have hol := hW2.opens
      have hlen : y2.cs.length = s2.cells.length := by rw [← hU2.same, List.length_map]
      have HLEN := Lib.hid hlen
      have HCV := Lib.hid hcv
      have HOV := Lib.hid hov
      have hsm : ∀ x ∈ y2.cs, x.1.reg ≤ 1000 ∧ x.1.ws.length ≤ 4097 := by
        intro x hx
        have hxm : x.1 ∈ s2.cells := by rw [← hU2.same]; exact List.mem_map.2 ⟨x, hx, rfl⟩
        have h1 := hG2.lt x.1.reg (hG2.reg x.1 hxm)
        have h2 := hW2.many
        exact ⟨by omega, hW2.wide x.1 hxm⟩
      have HSM := Lib.hid hsm
      clear hlen hcv hov hsm
      go_wp2_with fail
      go_loopw [6, 7] (fun s6 s7 W => ∃ j : Nat, j ≤ s2.opens.length ∧ s7 = .int .i64 (j : Int) ∧ s6 = .int .i64 (roomTo s2 j : Int) ∧ UserAt SA W y2 s2 large2 w'.heap.size ∧ Kept Nil w' W) (fun _ s7 _ => s2.opens.length - (intOf s7).toNat)
      case atStart => exact ⟨0, Nat.zero_le _, rfl, by simp [roomTo], hU2, K2⟩
      case round =>
        clear hU2 K2
        obtain ⟨j, hj, rfl, rfl, hU4, K4⟩ := hrel
        have hwl := roomTo_le (s := s2) (by omega) hW2.wide j
        have hrow := hU4.opens
        have hrowC := hU4.cells
        have hb := hU4.blk
        rw [HCV.out, HOV.out, HUB.out] at hb
        rw [HOV.out] at hrow
        rw [HCV.out] at hrowC
        have q0 := hb.cell 0
        have q2 := hb.cell 2
        have q3 := hb.cell 3
        have q4 := hb.cell 4
        simp only [List.getElem?_cons_zero, List.getElem?_cons_succ] at q0 q2 q3 q4
        have lu := hb.lt
        by_cases hjl : j < s2.opens.length
        · obtain ⟨g, cap', hq, hg, _, _, hcells⟩ := row_some hrow (by omega)
          have hoa : oa = some ⟨g, 0, none⟩ := by simp only [Value.slice.injEq, true_and] at hq; exact hq.1
          obtain ⟨r, hr⟩ : ∃ r, s2.opens[j]? = some r := ⟨s2.opens[j], List.getElem?_eq_getElem hjl⟩
          have px : wr.cell? ⟨g, j, none⟩ = some (.int .i64 (r : Int)) := by
            rw [hcells j (by omega), List.getElem?_map, hr]; rfl
          have hrm : r ∈ s2.opens := List.mem_of_getElem? hr
          have hrl := hG2.lt r hrm
          have hms := hW2.many
          have hws := roomTo_succ hr
          have hrl2 := roomOf_le s2.cells r (by omega) hW2.wide
          have RC : Hid (∀ W, Kept Nil wr W → Calls Try.prog 30 #[.slice ca s2.cells.length cc, .int .i64 (r : Int)] W fun e w' => e = .returned (.int .i64 (roomOf s2.cells r : Int)) ∧ w' = W) := fun W kW => by
            have := room_any W ca s2.cells.length cc y2.cs r (by omega) HLEN.out (by omega) (kW.row hrowC (fun _ _ => id)) HSM.out
            rw [hU4.same] at this
            exact this
          have q2' := q2
          rw [hoa] at q2'
          have Q2 := Lib.hid q2
          have HA := Lib.hid hoa
          have HWS := Lib.hid hws
          have b1 : (j : Int) < s2.opens.length := by omega
          have b2 : (0 : Int) ≤ j := by omega
          clear q2 hoa hws hr hcells hq
          go_wp2_with fail
          go_quiet ((go_at_call 30; exact Calls.quiet_of_same (RC.out _ (Kept.drewN (Kept.refl _ _) _))))
          go_wp2
          go_roundw
          case rel => exact ⟨j + 1, by omega, by go_num, by rw [HWS.out]; go_num, UserAt.keep L hU4 (Kept.drewN (Kept.refl Nil _) _) (fun i hi => hi.elim), K4.drewN _⟩
          case measure => simp [intOf]; omega
        · have hall := roomTo_all (s := s2) (j := j) (by omega)
          have hpg := room_pages hG2 hR2
          rw [← hall] at hpg
          have hwd := room_words hG2 hR2
          have hpf := pages_free s2
          have hlg := hR2.2.2.2
          have hol2 := hW2.owner
          have hpl := pages_le s2
          have PG : Hid (∀ W, Kept Nil wr W → Calls Try.prog 23 #[.pointer (some y2.sp)] W fun e w' => e = .returned (.int .i64 s2.pages) ∧ ∃ m, w' = W.drewN m) := fun W kW =>
            Q.pages (UserAt.keep L hU4 kW (fun i hi => hi.elim)).store hG2 (hW2.mono (by omega))
          have WD : Hid (∀ W, Kept Nil wr W → Calls Try.prog 21 #[.pointer (some y2.sp)] W fun e w' => e = .returned (.int .i64 s2.words) ∧ ∃ m, w' = W.drewN m) := fun W kW =>
            Q.words (UserAt.keep L hU4 kW (fun i hi => hi.elim)).store hG2 (hW2.mono (by omega))
          have FR : Hid (∀ W, Kept Nil wr W → Calls Try.prog 25 #[.pointer (some y2.sp)] W fun e w' => e = .returned (.int .i64 s2.free) ∧ ∃ m, w' = W.drewN m) := fun W kW =>
            Q.free (UserAt.keep L hU4 kW (fun i hi => hi.elim)).store hG2 (hW2.mono (by omega))
          obtain ⟨S, hS⟩ : ∃ S, S = roomTo s2 j := ⟨_, rfl⟩
          rw [← hS] at hpg hwl ⊢
          clear hS hall
          obtain ⟨M, hM⟩ : ∃ M, M = max most s2.pages := ⟨_, rfl⟩
          rw [← hM] at hlg hR2
          have hMle : M ≤ 257 * (k + 1) := by omega
          have HR2 := Lib.hid hR2
          have HLG : Hid (large2 = false → s2.pages + s2.free = M) := fun hl => by rw [hpf]; exact hlg hl
          clear hR2 hlg
          have g1 : decide ((S : Int) < (s2.pages : Int)) = false := by simp; omega
          have g2 : decide ((s2.pages : Int) * 16 < (s2.words : Int)) = false := by simp; omega
          have g1b : decide (S < s2.pages) = false := by simp; omega
          have g2b : decide (s2.pages * 16 < s2.words) = false := by simp; omega
          have hcase : (most < s2.pages ∧ M = s2.pages) ∨ (s2.pages < most ∧ M = most) ∨ (s2.pages = most ∧ M = most) := by omega
          have hfr : s2.free ≤ 100000 := by omega
          have hpg2 : s2.pages ≤ 100000 := by omega
          have hwd2 : s2.words ≤ 10000000 := by omega
          clear hM hpf hpl hwd hpg hol2
          rcases hcase with ⟨hc1, hc2⟩ | ⟨hc1, hc2⟩ | ⟨hc1, hc2⟩
          · have HC2 := Lib.hid hc2
            clear hc2
            go_wp2_with fail
            refine (PG.out _ (Kept.refl _ _)).mono ?_
            rintro e w5 ⟨rfl, m5, rfl⟩
            have K5 : Kept Nil wr (wr.drewN m5) := Kept.drewN (Kept.refl _ _) _
            have r0 := K5.cell q0 id
            have r4 := K5.cell q4 id
            have HWd := Lib.hid K5
            clear K5 q0 q2 q3 q4 lu
            obtain ⟨w6, hw6⟩ : ∃ w6, w6 = wr.drewN m5 := ⟨_, rfl⟩
            rw [← hw6] at r0 r4 HWd ⊢
            clear hw6
            have lu6 := World.block_lt_of_cell? _ _ r0
            simp only at lu6
            go_wp2_with fail
            cases large2
            · have hPF := HLG.out rfl
              rw [HC2.out] at hPF
              have g3 : ((s2.pages : Int) + (s2.free : Int) != ((s2.pages : Nat) : Int)) = false := by rw [bne_eq_false_iff_eq]; omega
              clear hPF
              have x1 : IntKind.i64.wrap ((s2.pages : Int) * 16) = (s2.pages : Int) * 16 := IntWalk.i64_in _ (by omega)
              have x2 : IntKind.i64.wrap ((s2.pages : Int) + (s2.free : Int)) = (s2.pages : Int) + (s2.free : Int) := IntWalk.i64_in _ (by omega)
              go_quiet ((first | (go_at_call 23; exact Calls.quiet_of (PG.out _ (Kept.drewN HWd.out _))) | (go_at_call 21; exact Calls.quiet_of (WD.out _ (Kept.drewN HWd.out _))) | (go_at_call 25; exact Calls.quiet_of (FR.out _ (Kept.drewN HWd.out _)))))
              clear x1 x2 g3
              go_wp2
              go_roundw
              case rel => exact ⟨k + 1, s2.pages, by omega, by go_num, rfl, y2, s2, false, UserAt.keep L hU4 (HWd.out.drewN _) (fun i hi => hi.elim), HUB.out, hG2, hW2, K4.trans (HWd.out.drewN _), m2, by have := HR2.out; rw [HC2.out] at this; exact this, by have := HC2.out; omega⟩
              case measure => simp [intOf]; omega
            · have x1 : IntKind.i64.wrap ((s2.pages : Int) * 16) = (s2.pages : Int) * 16 := IntWalk.i64_in _ (by omega)
              go_quiet ((first | (go_at_call 23; exact Calls.quiet_of (PG.out _ (Kept.drewN HWd.out _))) | (go_at_call 21; exact Calls.quiet_of (WD.out _ (Kept.drewN HWd.out _))) | (go_at_call 25; exact Calls.quiet_of (FR.out _ (Kept.drewN HWd.out _)))))
              clear x1
              go_wp2
              go_roundw
              case rel => exact ⟨k + 1, s2.pages, by omega, by go_num, rfl, y2, s2, true, UserAt.keep L hU4 (HWd.out.drewN _) (fun i hi => hi.elim), HUB.out, hG2, hW2, K4.trans (HWd.out.drewN _), m2, by have := HR2.out; rw [HC2.out] at this; exact this, by have := HC2.out; omega⟩
              case measure => simp [intOf]; omega
          · have HC2 := Lib.hid hc2
            clear hc2
            go_wp2_with fail
            refine (PG.out _ (Kept.refl _ _)).mono ?_
            rintro e w5 ⟨rfl, m5, rfl⟩
            have K5 : Kept Nil wr (wr.drewN m5) := Kept.drewN (Kept.refl _ _) _
            have r0 := K5.cell q0 id
            have r4 := K5.cell q4 id
            have HWd := Lib.hid K5
            clear K5 q0 q2 q3 q4 lu
            obtain ⟨w6, hw6⟩ : ∃ w6, w6 = wr.drewN m5 := ⟨_, rfl⟩
            rw [← hw6] at r0 r4 HWd ⊢
            clear hw6
            have lu6 := World.block_lt_of_cell? _ _ r0
            simp only at lu6
            go_wp2_with fail
            cases large2
            · have hPF := HLG.out rfl
              rw [HC2.out] at hPF
              have g3 : ((s2.pages : Int) + (s2.free : Int) != ((most : Nat) : Int)) = false := by rw [bne_eq_false_iff_eq]; omega
              clear hPF
              have x1 : IntKind.i64.wrap ((s2.pages : Int) * 16) = (s2.pages : Int) * 16 := IntWalk.i64_in _ (by omega)
              have x2 : IntKind.i64.wrap ((s2.pages : Int) + (s2.free : Int)) = (s2.pages : Int) + (s2.free : Int) := IntWalk.i64_in _ (by omega)
              go_quiet ((first | (go_at_call 23; exact Calls.quiet_of (PG.out _ (Kept.drewN HWd.out _))) | (go_at_call 21; exact Calls.quiet_of (WD.out _ (Kept.drewN HWd.out _))) | (go_at_call 25; exact Calls.quiet_of (FR.out _ (Kept.drewN HWd.out _)))))
              clear x1 x2 g3
              go_wp2
              go_roundw
              case rel => exact ⟨k + 1, most, by omega, by go_num, rfl, y2, s2, false, UserAt.keep L hU4 (HWd.out.drewN _) (fun i hi => hi.elim), HUB.out, hG2, hW2, K4.trans (HWd.out.drewN _), m2, by have := HR2.out; rw [HC2.out] at this; exact this, by have := HC2.out; omega⟩
              case measure => simp [intOf]; omega
            · have x1 : IntKind.i64.wrap ((s2.pages : Int) * 16) = (s2.pages : Int) * 16 := IntWalk.i64_in _ (by omega)
              go_quiet ((first | (go_at_call 23; exact Calls.quiet_of (PG.out _ (Kept.drewN HWd.out _))) | (go_at_call 21; exact Calls.quiet_of (WD.out _ (Kept.drewN HWd.out _))) | (go_at_call 25; exact Calls.quiet_of (FR.out _ (Kept.drewN HWd.out _)))))
              clear x1
              go_wp2
              go_roundw
              case rel => exact ⟨k + 1, most, by omega, by go_num, rfl, y2, s2, true, UserAt.keep L hU4 (HWd.out.drewN _) (fun i hi => hi.elim), HUB.out, hG2, hW2, K4.trans (HWd.out.drewN _), m2, by have := HR2.out; rw [HC2.out] at this; exact this, by have := HC2.out; omega⟩
              case measure => simp [intOf]; omega
          · subst hc1
            have HC2 := Lib.hid hc2
            clear hc2
            go_wp2_with fail
            refine (PG.out _ (Kept.refl _ _)).mono ?_
            rintro e w5 ⟨rfl, m5, rfl⟩
            have K5 : Kept Nil wr (wr.drewN m5) := Kept.drewN (Kept.refl _ _) _
            have r0 := K5.cell q0 id
            have r4 := K5.cell q4 id
            have HWd := Lib.hid K5
            clear K5 q0 q2 q3 q4 lu
            obtain ⟨w6, hw6⟩ : ∃ w6, w6 = wr.drewN m5 := ⟨_, rfl⟩
            rw [← hw6] at r0 r4 HWd ⊢
            clear hw6
            have lu6 := World.block_lt_of_cell? _ _ r0
            simp only at lu6
            go_wp2_with fail
            cases large2
            · have hPF := HLG.out rfl
              rw [HC2.out] at hPF
              have g3 : ((s2.pages : Int) + (s2.free : Int) != ((s2.pages : Nat) : Int)) = false := by rw [bne_eq_false_iff_eq]; omega
              clear hPF
              have x1 : IntKind.i64.wrap ((s2.pages : Int) * 16) = (s2.pages : Int) * 16 := IntWalk.i64_in _ (by omega)
              have x2 : IntKind.i64.wrap ((s2.pages : Int) + (s2.free : Int)) = (s2.pages : Int) + (s2.free : Int) := IntWalk.i64_in _ (by omega)
              go_quiet ((first | (go_at_call 23; exact Calls.quiet_of (PG.out _ (Kept.drewN HWd.out _))) | (go_at_call 21; exact Calls.quiet_of (WD.out _ (Kept.drewN HWd.out _))) | (go_at_call 25; exact Calls.quiet_of (FR.out _ (Kept.drewN HWd.out _)))))
              clear x1 x2 g3
              go_wp2
              go_roundw
              case rel => exact ⟨k + 1, s2.pages, by omega, by go_num, rfl, y2, s2, false, UserAt.keep L hU4 (HWd.out.drewN _) (fun i hi => hi.elim), HUB.out, hG2, hW2, K4.trans (HWd.out.drewN _), m2, by have := HR2.out; rw [HC2.out] at this; exact this, by have := HC2.out; omega⟩
              case measure => simp [intOf]; omega
            · have x1 : IntKind.i64.wrap ((s2.pages : Int) * 16) = (s2.pages : Int) * 16 := IntWalk.i64_in _ (by omega)
              go_quiet ((first | (go_at_call 23; exact Calls.quiet_of (PG.out _ (Kept.drewN HWd.out _))) | (go_at_call 21; exact Calls.quiet_of (WD.out _ (Kept.drewN HWd.out _))) | (go_at_call 25; exact Calls.quiet_of (FR.out _ (Kept.drewN HWd.out _)))))
              clear x1
              go_wp2
              go_roundw
              case rel => exact ⟨k + 1, s2.pages, by omega, by go_num, rfl, y2, s2, true, UserAt.keep L hU4 (HWd.out.drewN _) (fun i hi => hi.elim), HUB.out, hG2, hW2, K4.trans (HWd.out.drewN _), m2, by have := HR2.out; rw [HC2.out] at this; exact this, by have := HC2.out; omega⟩
              case measure => simp [intOf]; omega
    · go_wp2_with fail
      refine (head_any L _).mono ?_
      rintro e w9 ⟨rfl, k9⟩
      go_wp2
      go_ret
      exact ⟨rfl, hK.trans k9⟩
end
end Go.Proofs.Ytfoacgdahonapaa
