/- The user closes a region. -/
import Derived.Test.YtfoacgdahonapaaWithMake
import Derived.Test.YtfoacgdahonapaaWithOpen
namespace Go.Proofs.Ytfoacgdahonapaa
open Go.RowKit Abs
set_option linter.unusedVariables false

/-- What a slice value looks like that owns a row. -/
theorem row_form {w : World} {base : Nat} {e : TypeId} {size : Nat} {v : Value} {n : Nat} {xs : List Value} (h : w.ownsRow base e size v n xs) : ∃ a c, v = .slice a n c := by
  rcases h.2 with ⟨rfl, rfl⟩ | ⟨g, cap, cur, rfl, _⟩
  · exact ⟨none, 0, rfl⟩
  · exact ⟨_, _, rfl⟩

/-- A row's room. -/
theorem row_cap {w : World} {base : Nat} {e : TypeId} {size : Nat} {a : Addr} {n cap : Nat} {xs : List Value} (h : w.ownsRow base e size (.slice (some a) n cap) n xs) : n ≤ cap ∧ cap ≤ maxLen := by
  rcases h.2 with ⟨h1, _⟩ | ⟨g, cap', cur, h1, _, _, h2, h3, _⟩
  · cases h1
  · simp only [Value.slice.injEq, Option.some.injEq, true_and] at h1
    obtain ⟨_, rfl⟩ := h1
    exact ⟨h2, h3⟩

/-- Of the first k cells those that are not of that region. -/
def leftOf (reg : Nat) (l : List (ACell × Nat)) (k : Nat) : List (ACell × Nat) := (l.take k).filter (fun x => x.1.reg ≠ reg)

theorem leftOf_drop {reg : Nat} {l : List (ACell × Nat)} {k : Nat} {x : ACell × Nat} (hx : l[k]? = some x) (h : x.1.reg = reg) : leftOf reg l (k + 1) = leftOf reg l k := by
  unfold leftOf
  obtain ⟨hk, rfl⟩ := List.getElem?_eq_some_iff.1 hx
  rw [List.take_succ_eq_append_getElem hk, List.filter_append]
  simp [h]

theorem leftOf_keep {reg : Nat} {l : List (ACell × Nat)} {k : Nat} {x : ACell × Nat} (hx : l[k]? = some x) (h : x.1.reg ≠ reg) : leftOf reg l (k + 1) = leftOf reg l k ++ [x] := by
  unfold leftOf
  obtain ⟨hk, rfl⟩ := List.getElem?_eq_some_iff.1 hx
  rw [List.take_succ_eq_append_getElem hk, List.filter_append]
  simp [h]

theorem leftOf_le (reg : Nat) (l : List (ACell × Nat)) (k : Nat) : (leftOf reg l k).length ≤ k := by
  unfold leftOf
  have := List.length_filter_le (fun x : ACell × Nat => decide (x.1.reg ≠ reg)) (l.take k)
  have := List.length_take_le k l
  omega

theorem leftOf_all {reg : Nat} {l : List (ACell × Nat)} {k : Nat} (h : l.length ≤ k) : leftOf reg l k = l.filter (fun x => x.1.reg ≠ reg) := by
  unfold leftOf; rw [List.take_of_length_le h]

/-- What a user is when it has struck a region from its lists. -/
structure Struck (w w' : World) (ub : Nat) (sp : Addr) (many : Nat) (ov' cv' : Value) (large : Bool) (opens : List Nat) (cs : List (ACell × Nat)) : Prop where
  kept : Kept (· = ub) w w'
  blk : Blk w' ub [.pointer (some sp), .int .i64 (many : Int), ov', cv', .bool large] 45
  opens : w'.ownsRow 0 3 1 ov' opens.length (opens.map fun n : Nat => .int .i64 n)
  cells : w'.ownsRow 0 50 3 cv' cs.length (cs.flatMap cellVals)
  freshO : ∀ k, ov'.ownBlock = some k → w.heap.size ≤ k
  freshC : ∀ k, cv'.ownBlock = some k → w.heap.size ≤ k
  diff : ∀ k, ov'.ownBlock = some k → cv'.ownBlock ≠ some k

theorem add_zero (b j : Nat) : (⟨b, 0, none⟩ : Addr).add j = ⟨b, j, none⟩ := by unfold Addr.add; split <;> simp_all

theorem add_some (b o j : Nat) : (⟨b, o, none⟩ : Addr).add j = ⟨b, o + j, none⟩ := by unfold Addr.add; split <;> simp_all

/-- The first elements of a row lie where it begins. -/
theorem news_take {w W : World} {ob on oc : Nat} {opens : List Nat} (h : w.ownsRow 0 3 1 (.slice (some ⟨ob, 0, none⟩) on oc) on (opens.map fun n : Nat => .int .i64 n)) (k : Kept Nil w W) (m : Nat) :
    ∀ j u, ((opens.take m).map fun n : Nat => Value.int .i64 n)[j]? = some u → W.cell? ((⟨ob, 0, none⟩ : Addr).add j) = some u := by
  intro j u hu
  refine (k.row h (fun _ _ => id)).cells (g := ob) rfl j u ?_
  rw [List.map_take, List.getElem?_take] at hu
  split at hu
  · exact hu
  · cases hu

/-- The other ones further on. -/
theorem news_drop {w W : World} {ob on oc : Nat} {opens : List Nat} (h : w.ownsRow 0 3 1 (.slice (some ⟨ob, 0, none⟩) on oc) on (opens.map fun n : Nat => .int .i64 n)) (k : Kept Nil w W) (m : Nat) :
    ∀ j u, ((opens.drop m).map fun n : Nat => Value.int .i64 n)[j]? = some u → W.cell? ((⟨ob, m, none⟩ : Addr).add j) = some u := by
  intro j u hu
  have := (k.row h (fun _ _ => id)).cells (g := ob) rfl (m + j) u (by rw [List.map_drop, List.getElem?_drop] at hu; exact hu)
  rw [add_zero] at this
  rw [add_some]; exact this

set_option maxRecDepth 100000 in
set_option maxHeartbeats 1600000 in
theorem with_close_core (w : World) (ub : Nat) (sp : Addr) (many : Nat) (ob : Nat) (on oc : Nat) (ca : Option Addr) (cn cc : Nat) (large : Bool) (d r wd a f v : Int)
   (hd0 : 0 ≤ d) (hd1 : d ≤ 255) (hr : I64 r)
   (hd : d % 8 = 1) (ho : 0 < on) (ho2 : on ≤ 200) (hcn2 : cn ≤ 200)
   (hb : Blk w ub [.pointer (some sp), .int .i64 (many : Int), .slice (some ⟨ob, 0, none⟩) on oc, .slice ca cn cc, .bool large] 45)
   (hobu : ob ≠ ub) (opens : List Nat) (hol : Hid (opens.length = on))
   (howO : w.ownsRow 0 3 1 (.slice (some ⟨ob, 0, none⟩) on oc) on (opens.map fun n : Nat => .int .i64 n))
   (cs : List (ACell × Nat)) (hcl : Hid (cs.length = cn)) (hown : w.ownsRow 0 50 3 (.slice ca cn cc) cn (cs.flatMap cellVals)) (hcu : Hid ((Value.slice ca cn cc).ownBlock ≠ some ub))
   (at' : Nat) (hat : Hid (around r on = at')) (hat1 : at' < on) (reg : Nat) (hreg : Hid (opens[at']? = some reg))
   (cb : Nat) (hcb : Hid (0 < cn → ca = some ⟨cb, 0, none⟩))
   (R R2 : World → Prop)
   (G : Hid (∀ W ov' cv', Struck w W ub sp many ov' cv' large (opens.take at' ++ opens.drop (at' + 1)) (cs.filter (fun x => x.1.reg ≠ reg)) →
      Calls Try.prog 13 #[.pointer (some sp), .int .i64 (reg : Int)] W fun e w' => e = .returned (.int .i64 0) ∧ w'.cell? ⟨ub, 0, none⟩ = some (.pointer (some sp)) ∧ R w'))
   (G2 : Hid (∀ W, R W → Calls Try.prog 13 #[.pointer (some sp), .int .i64 (reg : Int)] W fun e w' => e = .returned (.int .i64 70) ∧ R2 w')) :
   Calls Try.prog 27 #[.pointer (some ⟨ub, 0, none⟩), .agg #[.int .u8 d, .int .i64 r, .int .i64 wd, .int .i64 a, .int .i64 f, .int .i64 v]] w
     (fun e w' => e = .returned (.bool true) ∧ R2 w') := by
  have e0 : (d % 8 == 0) = false := by rw [beq_eq_false_iff_ne]; omega
  have e1 : ((on : Int) == 0) = false := by rw [beq_eq_false_iff_ne]; omega
  have e2 : (d % 8 == 1) = true := by rw [beq_iff_eq]; omega
  have hat2 : w.cell? ⟨ob, at', none⟩ = some (.int .i64 (reg : Int)) := by
    rw [howO.cellAt at' (by omega), List.getElem?_map, hreg.out]; rfl
  have h2 : w.cell? ⟨ub, 2, none⟩ = some (.slice (some ⟨ob, 0, none⟩) on oc) := by rw [hb.cell]; rfl
  have lu := hb.lt
  have lo := (howO.lt ob rfl).2
  clear hd
  go_enter Try.func27, Try.ntmps27
  go_wp2_with fail
  go_quiet ((go_at_call 39; exact Calls.quiet_of_same (around_at _ _ at' _ hr (by omega) (by omega) hat)))
  obtain ⟨hoc, hocm⟩ := row_cap howO
  unfold maxLen at hocm
  have lT : (opens.take at').length = at' := by rw [List.length_take, hol.out]; omega
  have LT := Lib.hid lT
  have lD : (opens.drop (at' + 1)).length = on - (at' + 1) := by rw [List.length_drop, hol.out]
  have LD := Lib.hid lD
  clear lT lD
  obtain ⟨i0, hi0, hz0, hz1, hz2⟩ := info_parts infoInt
  go_wp2_with (at_builtin; go_loud (refine wpList_append_own _ rfl _ _ 28 rfl (w.heap.size + 1) 3 i0 (.int .i64 0) 1 8 Try.underlying28 hi0 hz0 hz1 hz2 rfl (by decide) _ _ _ rfl (World.ownsRow_nil _ _ _ _) ⟨ob, 0, none⟩ at' _ ((opens.take at').map fun n : Nat => .int .i64 n) rfl (by rw [List.length_map, LT.out]; omega) (news_take howO (Kept.drewN (Kept.alloc (Kept.refl _ _) _) _) _) (by intro u hu; obtain ⟨_, _, rfl⟩ := List.mem_map.1 hu; rfl) (by unfold maxLen; omega) (by omega) (by simp) ?_))
  intro v1 w1 own1 gr1 _
  obtain ⟨a1, c1, rfl⟩ := row_form own1
  have k1 : Kept Nil w w1 := Kept.grown (Kept.drewN (Kept.alloc (Kept.refl _ _) _) _) gr1 (fun k hk => by simp [Value.ownBlock] at hk)
  have b1 := Blk.keep k1 hb id
  have q2 := b1.cell 2
  simp only [List.getElem?_cons_zero, List.getElem?_cons_succ] at q2
  have lu1 := b1.lt
  have hsz : w.heap.size + 1 ≤ w1.heap.size := by have := gr1.size; simp at this; omega
  have row1 : Hid (∀ k, (Value.slice a1 at' c1).ownBlock = some k → w.heap.size ≤ k) := fun k hk => by have := (own1.lt k hk).1; omega
  clear h2 gr1
  go_upto_region 11 with fail
  go_cut [] (fun W => ∃ a2 c2, Kept (· = ub) w W ∧ Blk W ub [.pointer (some sp), .int .i64 (many : Int), .slice a2 (on - 1) c2, .slice ca cn cc, .bool large] 45 ∧
    W.ownsRow (w.heap.size + 1) 3 1 (.slice a2 (on - 1) c2) (on - 1) ((opens.take at' ++ opens.drop (at' + 1)).map fun n : Nat => .int .i64 n))
  case first =>
    by_cases hcap : oc = at' + 1
    · have hD : opens.drop (at' + 1) = [] := List.length_eq_zero_iff.1 (by rw [LD.out]; omega)
      have HD := Lib.hid hD
      clear hD
      go_wp2_with (at_builtin; refine wpList_append_own _ rfl _ _ 28 rfl (w.heap.size + 1) 3 i0 (.int .i64 0) 1 8 Try.underlying28 hi0 hz0 hz1 hz2 rfl (by decide) _ _ _ rfl own1 ⟨ob, 0, none⟩ _ _ ((opens.drop (at' + 1)).map fun n : Nat => .int .i64 n) rfl (by rw [List.length_map, LD.out]; omega) (by rw [HD.out]; intro j u hu; simp at hu) (by intro u hu; obtain ⟨_, _, rfl⟩ := List.mem_map.1 hu; rfl) (by unfold maxLen; omega) (by omega) (by omega) ?_)
      intro v2 w2 own2 gr2 _
      have own2' : w2.ownsRow (w.heap.size + 1) 3 1 v2 (on - 1) ((opens.take at' ++ opens.drop (at' + 1)).map fun n : Nat => .int .i64 n) := by
        rw [List.map_append, List.map_take, List.map_drop]
        rw [show on - 1 = at' + (on - (at' + 1)) by omega]
        simpa using own2
      obtain ⟨a2, c2, rfl⟩ := row_form own2'
      have k2 : Kept Nil w w2 := k1.grown gr2 (fun k hk => .inr (row1.out k hk))
      have b2 := Blk.keep k2 hb id
      clear q2 gr2 own2
      have q2 := b2.cell 2
      have f2 := b2.frozen 2
      simp only [List.getElem?_cons_zero, List.getElem?_cons_succ] at q2
      have lu2 := b2.lt
      go_wp2
      go_meet
      refine ⟨a2, c2, Kept.setIn (S := (· = ub)) k2.wide _ _ rfl _, Blk.set b2 2 _, ?_⟩
      exact ((Kept.refl (· = ub) w2).setIn ub 2 rfl _).row own2' (fun k hk e => by have := (own2'.lt k hk).1; omega)
    · go_wp2_with (at_builtin; refine wpList_append_own _ rfl _ _ 28 rfl (w.heap.size + 1) 3 i0 (.int .i64 0) 1 8 Try.underlying28 hi0 hz0 hz1 hz2 rfl (by decide) _ _ _ rfl own1 ⟨ob, at' + 1, none⟩ _ _ ((opens.drop (at' + 1)).map fun n : Nat => .int .i64 n) rfl (by rw [List.length_map, LD.out]; omega) (news_drop howO k1 _) (by intro u hu; obtain ⟨_, _, rfl⟩ := List.mem_map.1 hu; rfl) (by unfold maxLen; omega) (by omega) (by omega) ?_)
      intro v2 w2 own2 gr2 _
      have own2' : w2.ownsRow (w.heap.size + 1) 3 1 v2 (on - 1) ((opens.take at' ++ opens.drop (at' + 1)).map fun n : Nat => .int .i64 n) := by
        rw [List.map_append, List.map_take, List.map_drop]
        rw [show on - 1 = at' + (on - (at' + 1)) by omega]
        simpa using own2
      obtain ⟨a2, c2, rfl⟩ := row_form own2'
      have k2 : Kept Nil w w2 := k1.grown gr2 (fun k hk => .inr (row1.out k hk))
      have b2 := Blk.keep k2 hb id
      clear q2 gr2 own2
      have q2 := b2.cell 2
      have f2 := b2.frozen 2
      simp only [List.getElem?_cons_zero, List.getElem?_cons_succ] at q2
      have lu2 := b2.lt
      go_wp2
      go_meet
      refine ⟨a2, c2, Kept.setIn (S := (· = ub)) k2.wide _ _ rfl _, Blk.set b2 2 _, ?_⟩
      exact ((Kept.refl (· = ub) w2).setIn ub 2 rfl _).row own2' (fun k hk e => by have := (own2'.lt k hk).1; omega)
  case rest =>
    obtain ⟨a2, c2, k3, b3, own3⟩ := hcut
    have r3 := k3.row hown (fun k hk e => hcu.out (by rw [hk, e]))
    have c3 := b3.cell 3
    simp only [List.getElem?_cons_zero, List.getElem?_cons_succ] at c3
    have l3 := b3.lt
    obtain ⟨i1, hi1, hy0, hy1, hy2⟩ := info_parts infoCell
    go_wp2_with fail
    go_loopw [9, 10] (fun s9 s10 W => ∃ k al cl, k ≤ cn ∧ s10 = .int .i64 ((k : Nat) : Int) ∧ s9 = .slice al (leftOf reg cs k).length cl ∧ Kept Nil wc W ∧ W.ownsRow wc.heap.size 50 3 (.slice al (leftOf reg cs k).length cl) (leftOf reg cs k).length ((leftOf reg cs k).flatMap cellVals))
      (fun _ s10 _ => cn - (intOf s10).toNat)
    case atStart => exact ⟨0, none, 0, Nat.zero_le _, rfl, rfl, Kept.refl _ _, World.ownsRow_nil _ _ _ _⟩
    case round =>
      obtain ⟨k, al, cl, hk, rfl, rfl, kw, ownL⟩ := hrel
      have hle := leftOf_le reg cs k
      by_cases hlt : k < cn
      · obtain ⟨x, hx⟩ : ∃ x, cs[k]? = some x := ⟨cs[k]'(by rw [hcl.out]; exact hlt), List.getElem?_eq_getElem _⟩
        have hca := hcb.out (by omega)
        have q3 := kw.cell c3 id
        rw [hca] at q3
        have rr := kw.row r3 (fun _ _ => id)
        rw [hca] at rr
        have p0 := rr.cellAt (k * 3 + 0) (by omega)
        have p1 := rr.cellAt (k * 3 + 1) (by omega)
        have p2 := rr.cellAt (k * 3 + 2) (by omega)
        rw [flat_get _ _ _ (by omega), hx] at p0 p1 p2
        simp only [Option.bind_some, cellVals, List.getElem?_cons_zero, List.getElem?_cons_succ, Nat.add_zero] at p0 p1 p2
        obtain ⟨xr, xa, xb, xn, hxr, hxa, hxb, hxn⟩ : ∃ (xr xa xb xn : Nat), xr = x.1.reg ∧ xa = x.1.addr ∧ xb = x.2 ∧ xn = x.1.ws.length := ⟨_, _, _, _, rfl, rfl, rfl, rfl⟩
        rw [← hxr] at p0
        rw [← hxa] at p1
        rw [← hxb, ← hxn] at p2
        have HX := Lib.hid (And.intro hxr (And.intro hxa (And.intro hxb hxn)))
        have HC := Lib.hid hca
        have HXX := Lib.hid hx
        clear hxr hxa hxb hxn hca hx rr
        have lb := World.block_lt_of_cell? _ _ p0
        simp only at lb
        by_cases hreg' : xr = reg
        · have ht : (((xr : Nat) : Int) != ((reg : Nat) : Int)) = false := by subst hreg'; simp
          have HR := Lib.hid hreg'
          clear hreg'
          go_wp2
          go_roundw
          case rel =>
            have e := leftOf_drop (reg := reg) HXX.out (by rw [← HX.out.1]; exact HR.out)
            exact ⟨k + 1, al, cl, by omega, by go_num, by rw [e], kw, by rw [e]; exact ownL⟩
          case measure => simp [intOf]; omega
        · have ht : (((xr : Nat) : Int) != ((reg : Nat) : Int)) = true := by simp; omega
          have HR := Lib.hid hreg'
          clear hreg'
          go_wp2_with (at_builtin; go_loud (refine wpList_append_own _ rfl _ _ 43 rfl wc.heap.size 50 i1 _ 3 40 Try.underlying43 hi1 hy0 hy1 hy2 rfl (by decide) _ _ _ rfl (ownL.alloc _) ⟨wr.heap.size, 0, none⟩ 1 1 [.int .i64 (xr : Int), .int .i64 (xa : Int), .slice (some ⟨xb, 0, none⟩) xn xn] rfl rfl (World.news_of_block (heap_alloc_new _ _)) (by simp [Value.oneCell']) (by unfold maxLen; omega) (by omega) (by have := kw.size; simp; omega) ?_))
          intro v4 w4 own4 gr4 _
          have e := leftOf_keep (reg := reg) HXX.out (by rw [← HX.out.1]; exact HR.out)
          have own5 : w4.ownsRow wc.heap.size 50 3 v4 (leftOf reg cs (k + 1)).length ((leftOf reg cs (k + 1)).flatMap cellVals) := by
            rw [e, List.length_append, List.flatMap_append]
            obtain ⟨h1, h2, h3, h4⟩ := HX.out
            rw [h1, h2, h3, h4] at own4
            simpa [cellVals] using own4
          obtain ⟨a4, c4, hv4⟩ := row_form own5
          have kw4 : Kept Nil wc w4 := (kw.alloc _).grown gr4 (fun k hk => .inr (ownL.lt k hk).1)
          have HV := Lib.hid hv4
          clear hv4 e gr4 own4 ownL q3 p0 p1 p2
          go_wp2
          go_roundw
          case rel =>
            rw [HV.out] at own5
            exact ⟨k + 1, a4, c4, by omega, by go_num, HV.out, kw4, own5⟩
          case measure => simp [intOf]; omega
      · have hkc : k = cn := by omega
        have hall := leftOf_all (reg := reg) (l := cs) (k := k) (by rw [hcl.out]; omega)
        have HA := Lib.hid hall
        have b4 := Blk.keep kw b3 id
        have q0 := b4.cell 0
        have q3 := b4.cell 3
        have f3 := b4.frozen 3
        simp only [List.getElem?_cons_zero, List.getElem?_cons_succ] at q0 q3
        have l4 := b4.lt
        have ownO := kw.row own3 (fun _ _ => id)
        have lO : (opens.take at' ++ opens.drop (at' + 1)).length = on - 1 := by rw [List.length_append, LT.out, LD.out]; omega
        have HO := Lib.hid lO
        clear hall hkc lO hat2 hb howO hown c3
        go_wp2_with fail
        have hlu := own3.lt
        have huw : w.heap.size ≤ wc.heap.size := k3.size
        refine (G.out _ (.slice a2 (on - 1) c2) (.slice al (leftOf reg cs k).length cl) ⟨?_, ?_, ?_, ?_, ?_, ?_, ?_⟩).mono ?_
        · exact Kept.setIn (S := (· = ub)) (k3.trans kw.wide) _ _ rfl _
        · exact Blk.set b4 3 _
        · rw [HO.out]
          have := ((Kept.refl (· = ub) wr).setIn ub 3 rfl (.slice al (leftOf reg cs k).length cl)).row ownO (fun i hi e => by have := (own3.lt i hi).1; omega)
          exact ⟨this.1, this.2.imp id (fun ⟨g, cap, cur, h1, _, h3⟩ => ⟨g, cap, cur, h1, Nat.zero_le _, h3⟩)⟩
        · rw [← HA.out]
          have := ((Kept.refl (· = ub) wr).setIn ub 3 rfl (.slice al (leftOf reg cs k).length cl)).row ownL (fun i hi e => by have := (ownL.lt i hi).1; omega)
          exact ⟨this.1, this.2.imp id (fun ⟨g, cap, cur, h1, _, h3⟩ => ⟨g, cap, cur, h1, Nat.zero_le _, h3⟩)⟩
        · intro i hi; have := (own3.lt i hi).1; omega
        · intro i hi; have := (ownL.lt i hi).1; omega
        · intro i hi h2; have h3 := (own3.lt i hi).2; have h4 := (ownL.lt i h2).1; omega
        rintro e w5 ⟨rfl, hc0, hR⟩
        clear q0 q3 f3
        have lu5 := World.block_lt_of_cell? _ _ hc0
        go_wp2_with fail
        refine (G2.out _ hR).mono ?_
        rintro e w6 ⟨rfl, hR2⟩
        go_wp2
        go_ret
        exact ⟨rfl, hR2⟩
end Go.Proofs.Ytfoacgdahonapaa
