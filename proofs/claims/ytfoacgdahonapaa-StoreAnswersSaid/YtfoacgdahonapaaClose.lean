/- 'Close' of the program gives a region's pages back, one stretch after the other. -/
import Derived.Test.YtfoacgdahonapaaMade
namespace Go.Proofs.Ytfoacgdahonapaa
open Go.RowKit Abs Tree
set_option linter.unusedVariables false

def bAfter (b : Nat → Bool) (ts : List (Nat × Nat)) : Nat → Bool := ts.foldl (fun b t => setB b t.1 t.2 true) b
def dAfter (d : List Int) (ts : List (Nat × Nat)) : List Int := ts.foldl (fun d t => zr d (t.1 * 16) (t.2 * 16)) d

theorem bAfter_get (ts : List (Nat × Nat)) : ∀ (b : Nat → Bool) (j : Nat), bAfter b ts j = true ↔ b j = true ∨ ∃ t ∈ ts, t.1 ≤ j ∧ j < t.1 + t.2 := by
  induction ts with
  | nil => intro b j; simp [bAfter]
  | cons t ts ih =>
    intro b j
    show bAfter (setB b t.1 t.2 true) ts j = true ↔ _
    rw [ih]
    by_cases h : t.1 ≤ j ∧ j < t.1 + t.2
    · rw [setB_in h.1 h.2]
      simp [h]
    · rw [setB_out (by omega)]
      simp only [List.mem_cons, exists_eq_or_imp, h, false_or]

theorem dAfter_get (ts : List (Nat × Nat)) (N : Nat) : ∀ (d : List Int), d.length = N * 16 → (∀ t ∈ ts, t.1 + t.2 ≤ N) → (dAfter d ts).length = N * 16 ∧ ∀ j, ((∃ t ∈ ts, t.1 * 16 ≤ j ∧ j < t.1 * 16 + t.2 * 16) → (dAfter d ts)[j]? = some 0) ∧ ((¬ ∃ t ∈ ts, t.1 * 16 ≤ j ∧ j < t.1 * 16 + t.2 * 16) → (dAfter d ts)[j]? = d[j]?) := by
  induction ts with
  | nil => intro d hd _; exact ⟨hd, fun j => ⟨fun ⟨t, ht, _⟩ => by simp at ht, fun _ => rfl⟩⟩
  | cons t ts ih =>
    intro d hd hN
    have h1 := hN t (List.mem_cons_self ..)
    have hl : t.1 * 16 + t.2 * 16 ≤ d.length := by omega
    obtain ⟨g1, g2⟩ := ih (zr d (t.1 * 16) (t.2 * 16)) (by rw [zr_len hl]; exact hd) (fun x hx => hN x (List.mem_cons_of_mem _ hx))
    refine ⟨g1, fun j => ⟨?_, ?_⟩⟩
    · rintro ⟨x, hx, hj⟩
      show (dAfter (zr d (t.1 * 16) (t.2 * 16)) ts)[j]? = some 0
      by_cases h2 : ∃ t ∈ ts, t.1 * 16 ≤ j ∧ j < t.1 * 16 + t.2 * 16
      · exact (g2 j).1 h2
      · rw [(g2 j).2 h2, zr_get hl]
        rcases List.mem_cons.1 hx with h3 | h3
        · subst h3; rw [if_pos hj]
        · exact absurd ⟨x, h3, hj⟩ h2
    · intro hno
      show (dAfter (zr d (t.1 * 16) (t.2 * 16)) ts)[j]? = d[j]?
      rw [(g2 j).2 (fun ⟨x, hx, hj⟩ => hno ⟨x, List.mem_cons_of_mem _ hx, hj⟩), zr_get hl, if_neg (fun hj => hno ⟨t, List.mem_cons_self .., hj⟩)]

theorem after_next {ts : List (Nat × Nat)} {i : Nat} (hi : i < ts.length) (b : Nat → Bool) (d : List Int) :
    bAfter b (ts.take (i + 1)) = setB (bAfter b (ts.take i)) ts[i].1 ts[i].2 true ∧ dAfter d (ts.take (i + 1)) = zr (dAfter d (ts.take i)) (ts[i].1 * 16) (ts[i].2 * 16) := by
  have e : ts.take (i + 1) = ts.take i ++ [ts[i]] := by rw [List.take_add_one, List.getElem?_eq_getElem hi]; rfl
  unfold bAfter dAfter
  rw [e, List.foldl_append, List.foldl_append]
  exact ⟨rfl, rfl⟩

/-- Behind i stretches. -/
structure CAt (w W : World) (mb : Nat) (vs : List Value) (np : Nat) (data : List Int) (b : Nat → Bool) (ts : List (Nat × Nat)) (i : Nat) (vs' : List Value) (cnt' : Nat) : Prop where
  pg : Pg W mb vs' np (dAfter data (ts.take i)) (bAfter b (ts.take i)) cnt'
  same : ∀ j, j ≠ 4 → j ≠ 5 → vs'[j]? = vs[j]?
  new : ∀ j, nb vs' = some j → nb vs = some j ∨ w.heap.size ≤ j
  kept : Kept (pgF mb vs) w W

theorem sv_get (ts : List (Nat × Nat)) (i j : Nat) (hj : j < 2) : (ts.flatMap sv)[i * 2 + j]? = (ts[i]?).bind fun t => (sv t)[j]? := by
  induction ts generalizing i with
  | nil => simp
  | cons t ts ih =>
    rw [List.flatMap_cons]
    have hx : (sv t).length = 2 := rfl
    cases i with
    | zero => rw [List.getElem?_append_left (by omega)]; simp
    | succ i => rw [List.getElem?_append_right (by omega), hx, show (i + 1) * 2 + j - 2 = i * 2 + j by omega, ih i]; simp

/-- The next stretch does not wait yet. -/
theorem CAt.clear {w W : World} {mb : Nat} {vs : List Value} {np : Nat} {data : List Int} {b : Nat → Bool} {ts : List (Nat × Nat)} {i : Nat} {vs' : List Value} {cnt' : Nat} (h : CAt w W mb vs np data b ts i vs' cnt') (hi : i < ts.length)
    (disj : ts.Pairwise (fun a b => a.1 + a.2 ≤ b.1 ∨ b.1 + b.2 ≤ a.1)) (hb : ∀ t ∈ ts, ∀ j, t.1 ≤ j → j < t.1 + t.2 → b j = false) : ∀ j, ts[i].1 ≤ j → j < ts[i].1 + ts[i].2 → bAfter b (ts.take i) j = false := by
  intro j h1 h2
  rw [Bool.eq_false_iff]
  intro hh
  rcases (bAfter_get _ _ _).1 hh with h3 | ⟨t, ht, h3, h4⟩
  · rw [hb ts[i] (List.getElem_mem hi) j h1 h2] at h3; cases h3
  · obtain ⟨l, hl, rfl⟩ := List.mem_iff_getElem.1 ht
    rw [List.length_take] at hl
    rw [List.getElem_take] at h3 h4
    have := List.pairwise_iff_getElem.1 disj l i (by omega) hi (by omega)
    omega

theorem CAt.next {w W W' : World} {mb : Nat} {vs : List Value} {np : Nat} {data : List Int} {b : Nat → Bool} {ts : List (Nat × Nat)} {i : Nat} {vs' : List Value} {cnt' : Nat} {nv : Value} {c2 : Nat} (h : CAt w W mb vs np data b ts i vs' cnt') (hi : i < ts.length)
    (hp : Pg W' mb ((vs'.set 4 nv).set 5 (.int .i64 (c2 : Int))) np (zr (dAfter data (ts.take i)) (ts[i].1 * 16) (ts[i].2 * 16)) (setB (bAfter b (ts.take i)) ts[i].1 ts[i].2 true) c2)
    (hn : ∀ j, nv.ownBlock = some j → nb vs' = some j ∨ W.heap.size ≤ j) (hk : Kept (pgF mb vs') W W') : ∃ vs2 c2, CAt w W' mb vs np data b ts (i + 1) vs2 c2 := by
  obtain ⟨e1, e2⟩ := after_next hi b data
  refine ⟨(vs'.set 4 nv).set 5 (.int .i64 (c2 : Int)), c2, by rw [e1, e2]; exact hp, ?_, ?_, ?_⟩
  · intro j h4 h5
    rw [List.getElem?_set, if_neg (by omega), List.getElem?_set, if_neg (by omega)]
    exact h.same j h4 h5
  · intro j hj
    have six := h.pg.six
    have e4 : nb ((vs'.set 4 nv).set 5 (.int .i64 (c2 : Int))) = nv.ownBlock := by
      unfold nb
      rw [List.getD_eq_getElem?_getD, List.getElem?_set, if_neg (by omega), List.getElem?_set, if_pos rfl, if_pos (by omega)]; rfl
    rw [e4] at hj
    rcases hn j hj with h1 | h1
    · exact h.new j h1
    · have := h.kept.size; exact .inr (by omega)
  · refine h.kept.next hk (fun j hj => ?_)
    rcases hj with h1 | h1 | h1
    · exact .inl (.inl h1)
    · rcases h.new j h1 with h2 | h2
      · exact .inl (.inr (.inl h2))
      · exact .inr h2
    · have e : pb vs' = pb vs := by
        unfold pb
        rw [List.getD_eq_getElem?_getD, List.getD_eq_getElem?_getD, h.same 3 (by omega) (by omega)]
      exact .inl (.inr (.inr (by rw [← e]; exact h1)))

theorem CAt.pb {w W : World} {mb : Nat} {vs : List Value} {np : Nat} {data : List Int} {b : Nat → Bool} {ts : List (Nat × Nat)} {i : Nat} {vs' : List Value} {cnt' : Nat} (h : CAt w W mb vs np data b ts i vs' cnt') : pb vs' = pb vs := by
  unfold Proofs.Ytfoacgdahonapaa.pb
  rw [List.getD_eq_getElem?_getD, List.getD_eq_getElem?_getD, h.same 3 (by omega) (by omega)]

set_option maxRecDepth 100000 in
set_option maxHeartbeats 1600000 in
theorem close_core {w : World} {sb mb rb ob cb : Nat} {vs : List Value} {np : Nat} {data : List Int} {b : Nat → Bool} {cnt wd rwd nx lf nmap : Nat} {tv : Value} {ts : List (Nat × Nat)} {f : Int → Option Nat} {r : Int} (hr : I64 r)
    (rg : Calls Try.prog 32 #[.pointer (some ⟨sb, 0, none⟩), .int .i64 r] w fun e w' => e = .returned (.pointer (some ⟨rb, 0, none⟩)) ∧ w' = w)
    (hS : Blk w sb [.pointer (some ⟨sb, 0, none⟩), .pointer (some ⟨mb, 0, none⟩)] 63) (h : Pg w mb vs np data b cnt)
    (hR : Blk w rb [tv, .map (some cb), .int .i64 (rwd : Int), .int .i64 (nx : Int), .int .i64 (lf : Int)] 68) (ho : w.ownsRow 0 72 2 tv ts.length (ts.flatMap sv)) (hts : ts.length ≤ 100000)
    (v1 : vs[1]? = some (.map (some ob))) (v2 : vs[2]? = some (.int .i64 (wd : Int))) (hwd : wd ≤ 1000000) (hrw : rwd ≤ wd) (hm : MapF rp nilD w ob nmap f)
    (aS : ¬ pgF mb vs sb) (aR : ¬ pgF mb vs rb) (aT : ∀ j, tv.ownBlock = some j → ¬ pgF mb vs j) (aO : ¬ pgF mb vs ob)
    (pos : ∀ t ∈ ts, 1 ≤ t.2 ∧ t.1 + t.2 ≤ np) (disj : ts.Pairwise (fun a b => a.1 + a.2 ≤ b.1 ∨ b.1 + b.2 ≤ a.1)) (hb : ∀ t ∈ ts, ∀ j, t.1 ≤ j → j < t.1 + t.2 → b j = false) :
    Calls Try.prog 13 #[.pointer (some ⟨sb, 0, none⟩), .int .i64 r] w fun e w' => e = .returned (.int .i64 0) ∧ ∃ W vs' cnt', CAt w W mb vs np data b ts ts.length vs' cnt' ∧
      (W.setCell ⟨mb, 2, none⟩ (.int .i64 ((wd : Int) - rwd))).drew.grownBy w' (some ob) ∧ MapF rp nilD w' ob nmap (fun j => if j = r then none else f j) := by
  have s0 := hS.cell 0
  have s1 := hS.cell 1
  simp only [List.getElem?_cons_zero, List.getElem?_cons_succ] at s0 s1
  have r0 := hR.cell 0
  simp only [List.getElem?_cons_zero] at r0
  obtain ⟨n, hn⟩ : ∃ n, n = ts.length := ⟨_, rfl⟩
  obtain ⟨a, cap, hac⟩ : ∃ a cap, tv = .slice a n cap := by
    rcases ho.2 with ⟨h1, h2⟩ | ⟨g, cap, cur, h1, _⟩
    · exact ⟨none, 0, by rw [h1, hn, h2]⟩
    · exact ⟨_, cap, by rw [h1, hn]⟩
  rw [hac] at r0
  have RG := Lib.hid rg
  have HS := Lib.hid hS
  have HH := Lib.hid h
  have HR := Lib.hid hR
  have HO := Lib.hid ho
  have HN := Lib.hid hn
  have V1 := Lib.hid v1
  have V2 := Lib.hid v2
  have HM := Lib.hid hm
  have HAC := Lib.hid hac
  have lS := hS.lt
  have lR := hR.lt
  have lM := h.tr.1.lt
  have AS := Lib.hid aS
  have AR := Lib.hid aR
  have AT := Lib.hid aT
  have AO := Lib.hid aO
  have POS := Lib.hid pos
  have DISJ := Lib.hid disj
  have HB := Lib.hid hb
  have nle : n ≤ 100000 := by omega
  have start : Hid (CAt w w mb vs np data b ts 0 vs cnt) := ⟨h, fun _ _ _ => rfl, fun j hj => .inl hj, Kept.refl _ _⟩
  clear rg hS h hR ho hn v1 v2 hm hac aS aR aT aO pos disj hb hts
  go_enter Try.func13, Try.ntmps13
  go_wp2_with (go_at_call 32; refine RG.out.mono ?_; rintro e w2 ⟨rfl, rfl⟩)
  go_loopw [18] (fun s18 W => ∃ i : Nat, s18 = .int .i64 (i : Int) ∧ i ≤ n ∧ ∃ vs' cnt', Hid (CAt w2 W mb vs np data b ts i vs' cnt')) (fun s18 _ => n - (intOf s18).toNat)
  case atStart => exact ⟨0, rfl, by omega, vs, cnt, start⟩
  case round =>
    obtain ⟨i, rfl, hi, vs', cnt', hC⟩ := hrel
    have kk := hC.out.kept
    have bS := Blk.keep kk HS.out AS.out
    have s1' := bS.cell 1
    have lS' := bS.lt
    simp only [List.getElem?_cons_zero, List.getElem?_cons_succ] at s1'
    by_cases hlt : i < n
    · have hit : i < ts.length := by rw [← HN.out]; exact hlt
      have own := kk.row HO.out (fun j hj => AT.out j hj)
      rw [HAC.out, ← HN.out] at own
      obtain ⟨g, cap', hq, hgl, _, _, hcs⟩ := row_some own (by omega)
      simp only [Value.slice.injEq, true_and] at hq
      obtain ⟨ha, rfl⟩ := hq
      have p0 := hcs (i * 2) (by omega)
      have p1 := hcs (i * 2 + 1) (by omega)
      rw [show i * 2 = i * 2 + 0 by omega, sv_get _ _ _ (by omega), List.getElem?_eq_getElem hit] at p0
      rw [sv_get _ _ _ (by omega), List.getElem?_eq_getElem hit] at p1
      have hpos := POS.out ts[i] (List.getElem_mem hit)
      have hcl := hC.out.clear hit DISJ.out HB.out
      have hfew := HH.out.few
      obtain ⟨p, hp⟩ : ∃ p, p = ts[i].1 := ⟨_, rfl⟩
      obtain ⟨k, hk⟩ : ∃ k, k = ts[i].2 := ⟨_, rfl⟩
      have p0' : wr.cell? ⟨g, i * 2, none⟩ = some (.int .i64 (p : Int)) := by rw [hp]; exact p0
      have p1' : wr.cell? ⟨g, i * 2 + 1, none⟩ = some (.int .i64 (k : Int)) := by rw [hk]; exact p1
      rw [← hp, ← hk] at hpos hcl
      have k0 : Kept Nil wr ((wr.alloc (.cells #[.int .i64 (p : Int), .int .i64 (k : Int)] 72)).drew) := ((Kept.refl _ _).alloc _).drew
      have gb := st_giveBack (hC.out.pg.kept k0 (fun h => h) (fun _ _ h => h) (fun _ _ h => h)) hpos.1 hpos.2 hcl
      have hnS : ¬ pgF mb vs' sb := by
        rintro (h1 | h1 | h1)
        · exact AS.out (.inl h1)
        · rcases hC.out.new sb h1 with h2 | h2
          · exact AS.out (.inr (.inl h2))
          · omega
        · exact AS.out (.inr (.inr (by rw [← hC.out.pb]; exact h1)))
      have hn7 : ¬ pgF mb vs' wr.heap.size := by
        rintro (h1 | h1 | h1)
        · have := hC.out.pg.lt.1; omega
        · exact absurd (hC.out.pg.lt.2.2 _ h1) (Nat.lt_irrefl _)
        · exact absurd (hC.out.pg.lt.2.1 _ h1) (Nat.lt_irrefl _)
      have b7 : Blk ((wr.alloc (.cells #[.int .i64 (p : Int), .int .i64 (k : Int)] 72)).drew) wr.heap.size [.int .i64 (p : Int), .int .i64 (k : Int)] 72 := Blk.drew (Blk.new rfl)
      have bS2 := Blk.keep k0 bS (fun h => h)
      have GB := Lib.hid gb
      have NS := Lib.hid hnS
      have N7 := Lib.hid hn7
      have B7 := Lib.hid b7
      have BS2 := Lib.hid bS2
      have HP := Lib.hid hp
      have HK := Lib.hid hk
      have HIT := Lib.hid hit
      have hlen : (0 : Int) ≤ i := by omega
      have K0 := Lib.hid k0
      subst ha
      clear gb hnS hn7 b7 bS2 p0 p1 hcl hpos own hcs kk bS hp hk k0
      go_upto_block 1 with fail
      go_cut [] (fun W => ∃ vs2 c2, Hid (CAt w2 W mb vs np data b ts (i + 1) vs2 c2))
      case first =>
        go_upto_region 7 with fail
        go_region_held3 (fun W => W.cell? ⟨sb, 1, none⟩ = some (.pointer (some ⟨mb, 0, none⟩)) ∧ W.cell? ⟨wr.heap.size, 0, none⟩ = some (.int .i64 (p : Int)) ∧ W.cell? ⟨wr.heap.size, 1, none⟩ = some (.int .i64 (k : Int)))
          (first | exact ⟨z2, z0, z1⟩ | go_keep | assumption)
          (first | (go_at_call 33; refine GB.out.mono ?_; rintro e w5 ⟨rfl, nv, P5, n5, k5⟩; have b5 := Blk.keep k5 B7.out N7.out; have z0 := b5.cell 0; have z1 := b5.cell 1; have bS5 := Blk.keep k5 BS2.out NS.out; have z2 := bS5.cell 1; simp only [List.getElem?_cons_zero, List.getElem?_cons_succ] at z0 z1 z2))
        rename_i hHeld
        clear hHeld
        have hres : Hid (∃ vs2 c2, CAt w2 w5 mb vs np data b ts (i + 1) vs2 c2) := by
          have P6 := P5
          have k6 := K0.out.wide.trans k5
          rw [HP.out, HK.out] at P6
          exact hC.out.next HIT.out P6 (fun j hj => (n5 j hj).imp id (fun h => by simp at h; omega)) k6
        clear P5 n5 k5 b5 bS5 z0 z1 z2
        go_wp2
        go_meet
        exact ⟨_, _, hres.out.choose_spec.choose_spec⟩
      case rest =>
        obtain ⟨vs2, c2, hC2⟩ := hcut
        clear p0' p1' s1' lS'
        go_wp2
        go_roundw
        case rel => exact ⟨i + 1, by go_num, by omega, vs2, c2, hC2⟩
        case measure => simp [intOf]; omega
    · have hin : i = n := by omega
      subst hin
      have hnR : ¬ pgF mb vs' rb := by
        rintro (h1 | h1 | h1)
        · exact AR.out (.inl h1)
        · rcases hC.out.new rb h1 with h2 | h2
          · exact AR.out (.inr (.inl h2))
          · omega
        · exact AR.out (.inr (.inr (by rw [← hC.out.pb]; exact h1)))
      have bR := Blk.keep kk HR.out AR.out
      have r2 := bR.cell 2
      simp only [List.getElem?_cons_zero, List.getElem?_cons_succ] at r2
      have lR' := bR.lt
      have bM := hC.out.pg.tr.1
      have m2 := bM.cell 2
      rw [hC.out.same 2 (by omega) (by omega), V2.out] at m2
      have m1 := bM.cell 1
      rw [hC.out.same 1 (by omega) (by omega), V1.out] at m1
      have fm := bM.frozen 2
      have lM' := bM.lt
      have hmo := HM.out.frame (kk.block ob HM.out.lt AO.out)
      have neO : ob ≠ mb := fun e => AO.out (.inl e)
      have hm2 : MapF rp nilD (wr.setCell ⟨mb, 2, none⟩ (.int .i64 ((wd : Int) - (rwd : Int)))).drew ob nmap f := hmo.frame (Below.heap_setCell _ _ _ _ neO)
      have hsm : ¬ (sb = mb) := fun e => AS.out (.inl e)
      have hC' := hC
      rw [HN.out] at hC'
      clear kk bS bR bM hmo
      go_upto_region 9 with fail
      go_still_tail 14, (by kernel_rfl)
      change wpList _ _ _ _ _ (World.drew _)
      go_wp2_with (at_delete; go_loud (refine wpList_delP _ rfl _ _ rfl hm2 hr rfl rfl ?_))
      intro w6 hm6 gr6
      go_wp2
      go_ret
      exact ⟨rfl, wr, vs', cnt', hC'.out, gr6, hm6⟩

end Go.Proofs.Ytfoacgdahonapaa
