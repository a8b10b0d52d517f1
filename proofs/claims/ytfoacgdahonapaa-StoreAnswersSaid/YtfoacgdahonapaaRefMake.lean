/- The reference makes a cell. -/
import Derived.Test.YtfoacgdahonapaaRefTake
import Derived.Deep.RegionHeld3
import Derived.StillTailTactics
namespace Go.Proofs.Ytfoacgdahonapaa
open Go.RowKit Abs
set_option linter.unusedVariables false

/-- The k words from a on are 0. -/
def zset (data : List Int) (a : Nat) : Nat → List Int
  | 0 => data
  | k + 1 => (zset data a k).set (a + k) 0

theorem zset_length (data : List Int) (a k : Nat) : (zset data a k).length = data.length := by
  induction k with
  | zero => rfl
  | succ k ih => unfold zset; rw [List.length_set, ih]

theorem zset_get (data : List Int) (a k j : Nat) : (zset data a k)[j]? = if a ≤ j ∧ j < a + k then (if j < data.length then some 0 else none) else data[j]? := by
  induction k with
  | zero => rw [if_neg (by omega)]; rfl
  | succ k ih =>
    unfold zset
    rw [List.getElem?_set, zset_length, ih]
    by_cases h1 : a + k = j
    · subst h1
      rw [if_pos rfl, if_pos (show a ≤ a + k ∧ a + k < a + (k + 1) by omega)]
    · rw [if_neg h1]
      by_cases h2 : a ≤ j ∧ j < a + k
      · rw [if_pos h2, if_pos (show a ≤ j ∧ j < a + (k + 1) by omega)]
      · rw [if_neg h2, if_neg (show ¬ (a ≤ j ∧ j < a + (k + 1)) by omega)]

theorem place_ever (s : ASt) (r n : Nat) : (s.place r n).2.ever = s.ever := by
  unfold ASt.place
  split
  · rfl
  · split
    · split <;> rfl
    · rfl

theorem place_inside {s : ASt} {r n : Nat} (g : s.Good) (hr : r ∈ s.opens) (hn : 1 ≤ n) {all : List Ent} {data : List Int} (h : RefOk (s.place r n).2 all data) : (s.place r n).1 + n ≤ data.length := by
  have := (placed g hr hn).mine ((s.place r n).1 + n - 1) (by omega) (by omega)
  have := (List.getElem?_eq_some_iff.1 this).1
  rw [h.dlen]
  omega

theorem RefOk.made {s : ASt} {r n : Nat} (g : s.Good) (hr : r ∈ s.opens) (hn : 1 ≤ n) (h2 : n ≤ 4097) {all : List Ent} {data : List Int} (h : RefOk (s.place r n).2 all data) :
    RefOk (s.made r n) (all ++ [(r, (s.place r n).1, n)]) (zset data (s.place r n).1 n) := by
  have hP := placed g hr hn
  have hin := place_inside g hr hn h
  refine ⟨?_, ?_, ?_, ?_, by rw [zset_length]; exact h.dlen, ?_⟩
  · show (all ++ [(r, (s.place r n).1, n)]).filter (fun x => decide (x.1 ∈ (s.place r n).2.opens)) = (s.cells ++ [(⟨r, (s.place r n).1, List.replicate n 0⟩ : ACell)]).map (fun c => (c.reg, c.addr, c.ws.length))
    rw [List.filter_append, h.live, List.map_append, hP.cells]
    congr 1
    simp [hP.opens, hr]
  · show _ = s.ever + 1
    rw [List.length_append, h.ever, place_ever]; rfl
  · intro x hx
    show x.1 < (s.place r n).2.many
    rcases List.mem_append.1 hx with h1 | h1
    · exact h.regs x h1
    · rw [List.mem_singleton.1 h1, hP.many]; exact g.lt r hr
  · intro x hx
    rcases List.mem_append.1 hx with h1 | h1
    · exact h.size x h1
    · rw [List.mem_singleton.1 h1]; exact h2
  · intro c hc j z hz
    have hc' : c ∈ s.cells ++ [⟨r, (s.place r n).1, List.replicate n 0⟩] := hc
    have hj := (List.getElem?_eq_some_iff.1 hz).1
    rw [zset_get]
    rcases List.mem_append.1 hc' with h1 | h1
    · have := hP.far c h1
      rw [if_neg (by omega)]
      exact h.vals c (by rw [hP.cells]; exact h1) j z hz
    · rw [List.mem_singleton.1 h1] at hz hj ⊢
      simp only [List.length_replicate] at hj
      simp only [List.getElem?_replicate, hj, if_true, Option.some.injEq] at hz
      simp only
      rw [if_pos (by omega), if_pos (by omega), hz]

/-- The place on pages of its own. -/
theorem place_big (s : ASt) (r n : Nat) (h : 16 < n) : s.place r n = (16 * findRun s.owner ((n + 15) / 16), takenTo s (findRun s.owner ((n + 15) / 16)) ((n + 15) / 16) r) := by
  unfold ASt.place; rw [if_pos h]; rfl

/-- The store with the region's current page and what of it is taken. -/
def curTo (s : ASt) (r p f : Nat) : ASt := { s with cur := fun q => if q = r then some (p, f) else s.cur q }

theorem place_fresh (s : ASt) (r n : Nat) (h : ¬ 16 < n) (hc : ∀ p f, s.cur r = some (p, f) → ¬ f + n ≤ 16) :
    s.place r n = (16 * findRun s.owner 1, curTo (takenTo s (findRun s.owner 1) 1 r) r (findRun s.owner 1) n) := by
  unfold ASt.place; rw [if_neg h]
  cases hcr : s.cur r with
  | none => rfl
  | some pf =>
    obtain ⟨p, f⟩ := pf
    simp only
    rw [if_neg (hc p f hcr)]; rfl

theorem place_fits (s : ASt) (r n p f : Nat) (h : ¬ 16 < n) (hc : s.cur r = some (p, f)) (hf : f + n ≤ 16) : s.place r n = (16 * p + f, curTo s r p (f + n)) := by
  unfold ASt.place; rw [if_neg h, hc]
  simp only
  rw [if_pos hf]; rfl

theorem curTo_cur (s : ASt) (r p f : Nat) : curL (curTo s r p f) = (curL s).set r (.int .i64 (p : Int)) := by
  apply List.ext_getElem?
  intro i
  unfold curL
  rw [List.getElem?_set, List.getElem?_map, List.getElem?_map, List.length_map, List.length_range]
  show ((List.range s.many)[i]?).map _ = _
  by_cases hi : i < s.many
  · rw [List.getElem?_range hi]
    by_cases he : r = i
    · subst he
      rw [if_pos rfl, if_pos hi]
      simp [curI, curTo]
    · rw [if_neg he]
      simp [curI, curTo, Ne.symm he]
  · have : (List.range s.many)[i]? = none := List.getElem?_eq_none (by simpa using hi)
    rw [this]
    split
    · rw [if_neg (by omega)]; rfl
    · rfl

theorem curTo_fill (s : ASt) (r p f : Nat) : fillL (curTo s r p f) = (fillL s).set r (.int .i64 (f : Int)) := by
  apply List.ext_getElem?
  intro i
  unfold fillL
  rw [List.getElem?_set, List.getElem?_map, List.getElem?_map, List.length_map, List.length_range]
  show ((List.range s.many)[i]?).map _ = _
  by_cases hi : i < s.many
  · rw [List.getElem?_range hi]
    by_cases he : r = i
    · subst he
      rw [if_pos rfl, if_pos hi]
      simp [fillI, curTo]
    · rw [if_neg he]
      simp [fillI, curTo, Ne.symm he]
  · have : (List.range s.many)[i]? = none := List.getElem?_eq_none (by simpa using hi)
    rw [this]
    split
    · rw [if_neg (by omega)]; rfl
    · rfl

theorem RefOk.curTo {s : ASt} {all : List Ent} {data : List Int} (h : RefOk s all data) (r p f : Nat) : RefOk (curTo s r p f) all data := ⟨h.live, h.ever, h.regs, h.size, h.dlen, h.vals⟩

theorem rows_cur (s : ASt) (all : List Ent) (data : List Int) (r p f : Nat) : ((refRows s all data).set 1 (3, (curL s).set r (.int .i64 (p : Int)))).set 2 (3, (fillL s).set r (.int .i64 (f : Int))) = refRows (curTo s r p f) all data := by
  rw [← curTo_cur, ← curTo_fill s r p f]; rfl

theorem row1_at {W : World} {sb g c m r : Nat} {vs : List Value} {u : ASt} {all : List Ent} {data : List Int} (R : Recs W sb vs (refRows u all data) 31) (y : vs[1]? = some (.slice (some ⟨g, 0, none⟩) m c)) (hm : u.many = m) (hr : r < m) :
    W.cell? ⟨sb, 1, none⟩ = some (.slice (some ⟨g, 0, none⟩) m c) ∧ W.cell? ⟨g, r, none⟩ = some (.int .i64 (curI u r)) ∧ W.frozen? ⟨g, r, none⟩ = false ∧ g < W.heap.size ∧ sb < W.heap.size ∧ m = (curL u).length := by
  have hl : (curL u).length = m := by simp [curL, hm]
  have o := R.own 1 _ 3 (curL u) y rfl
  rw [hl] at o
  obtain ⟨g', e, h1, h2, h3⟩ := row_elem o hr
  simp only [Option.some.injEq, Addr.mk.injEq, and_true] at e
  subst e
  refine ⟨by rw [R.cell]; exact y, ?_, h3, h1, R.blk.lt, hl.symm⟩
  rw [h2]
  unfold curL; rw [List.getElem?_map, List.getElem?_range (by omega)]; rfl

theorem row2_at {W : World} {sb g c m r : Nat} {vs : List Value} {u : ASt} {all : List Ent} {data : List Int} (R : Recs W sb vs (refRows u all data) 31) (y : vs[2]? = some (.slice (some ⟨g, 0, none⟩) m c)) (hm : u.many = m) (hr : r < m) :
    W.cell? ⟨sb, 2, none⟩ = some (.slice (some ⟨g, 0, none⟩) m c) ∧ W.cell? ⟨g, r, none⟩ = some (.int .i64 (fillI u r)) ∧ W.frozen? ⟨g, r, none⟩ = false ∧ g < W.heap.size ∧ sb < W.heap.size ∧ m = (fillL u).length := by
  have hl : (fillL u).length = m := by simp [fillL, hm]
  have o := R.own 2 _ 3 (fillL u) y rfl
  rw [hl] at o
  obtain ⟨g', e, h1, h2, h3⟩ := row_elem o hr
  simp only [Option.some.injEq, Addr.mk.injEq, and_true] at e
  subst e
  refine ⟨by rw [R.cell]; exact y, ?_, h3, h1, R.blk.lt, hl.symm⟩
  rw [h2]
  unfold fillL; rw [List.getElem?_map, List.getElem?_range (by omega)]; rfl

theorem Mid.before {w W0 W : World} {sb : Nat} {vs vs' : List Value} {rows : List (TypeId × List Value)} (h : Mid W0 sb vs rows W vs') (k : Kept Nil w W0) : Mid w sb vs rows W vs' :=
  ⟨h.recs, (k.mono (fun _ hh => hh.elim)).trans h.kept, fun j hj => (h.new j hj).imp id (fun e => by have := k.size; omega), h.len⟩

theorem Mid.after {w W W' : World} {sb : Nat} {vs vs' : List Value} {rows : List (TypeId × List Value)} (h : Mid w sb vs rows W vs') (k : Kept Nil W W') : Mid w sb vs rows W' vs' :=
  ⟨h.recs.kept k (fun i hi => hi.elim), h.kept.trans (k.mono (fun _ hh => hh.elim)), h.new, h.len⟩

theorem rows_fill {u t : ASt} {all : List Ent} {data : List Int} {r q f : Nat} (hm : r < u.many) (hc : ∃ f0, u.cur r = some (q, f0)) (ht : t = curTo u r q f) : (refRows u all data).set 2 (3, (fillL u).set r (.int .i64 (f : Int))) = refRows t all data := by
  obtain ⟨f0, hc⟩ := hc
  have e : (curL u).set r (.int .i64 (q : Int)) = curL u := by
    apply List.ext_getElem?
    intro i
    rw [List.getElem?_set]
    by_cases hi : r = i
    · subst hi
      unfold curL
      rw [if_pos rfl, if_pos (by simpa using hm), List.getElem?_map, List.getElem?_range hm]
      simp [curI, hc]
    · rw [if_neg hi]
  rw [ht, ← rows_cur u all data r q f, e]
  rfl

theorem curTo_twice (s : ASt) (r p f f' : Nat) : curTo (curTo s r p f) r p f' = curTo s r p f' := by
  unfold curTo
  simp only [ASt.mk.injEq, and_true, true_and]
  funext q
  by_cases h : q = r <;> simp [h]

set_option maxRecDepth 100000 in
set_option maxHeartbeats 3200000 in
theorem ref_made {w : World} {sp : Addr} {s : ASt} {F : Nat → Prop} (h : RefAt w sp s F) (hG : s.Good) (hW : s.Within 200) (r n : Nat) (hr : r ∈ s.opens) (hn1 : 1 ≤ n) (hn2 : n ≤ 4097) :
    Calls Try.prog 16 #[.pointer (some sp), .int .i64 (r : Int), .int .i64 (n : Int)] w fun e w' => e = .returned (.tuple #[.int .i64 ((s.place r n).1 : Int), .int .i64 0]) ∧ Now RefAt w F sp (s.made r n) w' := by
  have hrm := hG.lt r hr
  have hmy := hW.many
  have hev := hW.ever
  have how := hW.owner
  have hpo := place_owner (s := s) r hn1 hn2
  have io := ref_isOpen h hG hW.many (r : Int) ⟨by omega, by omega⟩
  rw [show decide (s.isOpen (r : Int)) = true from by simp [ASt.isOpen, hr]] at io
  have IO := Lib.hid io
  obtain ⟨sb, vs, all, data, rfl, rfl, hl, hR, hO⟩ := h
  have HR := Lib.hid hR
  have lb := hR.blk.lt
  obtain ⟨ad, had⟩ : ∃ ad, ad = (s.place r n).1 := ⟨_, rfl⟩
  obtain ⟨t, ht⟩ : ∃ t, t = (s.place r n).2 := ⟨_, rfl⟩
  rw [← ht] at hpo
  have HA := Lib.hid had
  have HT := Lib.hid ht
  rw [← had]
  obtain ⟨ii, hii, hz0', hz1, hz2⟩ := info_parts rInfoInt
  clear io had ht hR
  go_enter Try.func16, Try.ntmps16
  go_wp2_with fail
  refine IO.out.mono ?_
  rintro e w' ⟨rfl, rfl⟩
  go_upto_if 21 with fail
  go_cut [8] (fun s8 W => s8 = .int .i64 (ad : Int) ∧ ∃ vs' all' data', Hid (Mid w' sb vs (refRows t all' data') W vs' ∧ RefOk t all' data'))
  case first =>
    by_cases hb : 16 < n
    · have hpl := place_big s r n hb
      obtain ⟨k, hk⟩ : ∃ k, k = (n + 15) / 16 := ⟨_, rfl⟩
      have hk1 : 1 ≤ k := by omega
      have hk2 : k ≤ 257 := by omega
      have htk := ref_take hl HR.out hO hW r k (by omega) hk1 hk2
      have TK := Lib.hid htk
      have hkq : (((n : Int) + 16 - 1).tdiv 16) = (k : Int) := by
        rw [show (n : Int) + 16 - 1 = ((n + 15 : Nat) : Int) by omega, hk]; rfl
      rw [← hk] at hpl
      have hq2 := findRun_le s.owner k (by omega)
      obtain ⟨q, hq⟩ : ∃ q, q = findRun s.owner k := ⟨_, rfl⟩
      rw [← hq] at hpl hq2 TK
      have hadq : ad = 16 * q := by rw [HA.out, hpl]
      have htt : t = takenTo s q k r := by rw [HT.out, hpl]
      rw [← htt] at TK
      have HADQ := Lib.hid hadq
      clear hpl htk hk hq hadq htt
      go_wp2_with fail
      refine TK.out.mono ?_
      rintro e w2 ⟨rfl, vs', data', hM, hS, hO2⟩
      have MM := Lib.hid (And.intro hM hO2)
      clear hM hS hO2
      go_wp2
      go_meet
      exact ⟨by rw [HADQ.out]; go_num, vs', all, data', MM.out⟩
    · obtain ⟨a1, c1, v1, q1, o1⟩ := HR.out.at 1 (e := 3) (xs := curL s) rfl
      obtain ⟨a2, c2, v2, q2, o2⟩ := HR.out.at 2 (e := 3) (xs := fillL s) rfl
      have l1 : (curL s).length = s.many := by simp [curL]
      have l2 : (fillL s).length = s.many := by simp [fillL]
      obtain ⟨m, hm⟩ : ∃ m, m = s.many := ⟨_, rfl⟩
      rw [l1, ← hm] at v1 q1 o1
      rw [l2, ← hm] at v2 q2 o2
      have hrm' : r < m := by rw [hm]; exact hrm
      have ir0 : (0 : Int) ≤ (r : Int) := by omega
      have ir1 : (r : Int) < (m : Int) := by omega
      have HM := Lib.hid hm
      obtain ⟨ci, hci⟩ : ∃ ci, ci = curI s r := ⟨_, rfl⟩
      obtain ⟨fi, hfi⟩ : ∃ fi, fi = fillI s r := ⟨_, rfl⟩
      have x1 : (curL s)[r]? = some (.int .i64 ci) := by unfold curL; rw [List.getElem?_map, List.getElem?_range hrm, hci]; rfl
      have x2 : (fillL s)[r]? = some (.int .i64 fi) := by unfold fillL; rw [List.getElem?_map, List.getElem?_range hrm, hfi]; rfl
      obtain ⟨g1, e1, lg1, p1, f1⟩ := row_elem o1 hrm'
      obtain ⟨g2, e2, lg2, p2, f2⟩ := row_elem o2 hrm'
      rw [x1] at p1
      rw [x2] at p2
      rw [e1] at q1 v1
      rw [e2] at q2 v2
      have hg1 : g1 ≠ sb := fun e => HR.out.far 1 _ v1 (by rw [e]; rfl)
      have hfb : -1 ≤ ci ∧ 0 ≤ fi ∧ fi ≤ 16 ∧ ci ≤ 100000 := by
        rw [hci, hfi]
        unfold curI fillI
        cases hcr : s.cur r with
        | none => simp
        | some pf =>
          obtain ⟨p, f⟩ := pf
          obtain ⟨h1, h2, _⟩ := hG.cur r hr p f hcr
          have := (List.getElem?_eq_some_iff.1 h1).1
          simp only
          omega
      obtain ⟨hb1, hb2, hb3, hb4⟩ := hfb
      have HCI := Lib.hid hci
      have HFI := Lib.hid hfi
      have V1 := Lib.hid v1
      have V2 := Lib.hid v2
      have X1 := Lib.hid x1
      have X2 := Lib.hid x2
      clear hm hci hfi e1 e2 v1 v2 l1 l2 o1 o2 x1 x2
      obtain ⟨fr, hfr⟩ : ∃ fr, fr = (decide (ci < 0) || decide (16 < fi + (n : Int))) := ⟨_, rfl⟩
      have HFR := Lib.hid hfr
      clear hfr
      go_upto_region 8 with fail
      go_cut [49] (fun s49 W => W = w' ∧ s49 = .bool fr)
      case first =>
        by_cases h1 : ci < 0
        · have d1 : decide (ci < 0) = true := by simpa using h1
          have D1 := Lib.hid d1
          clear h1
          go_wp2
          go_meet
          exact ⟨rfl, by rw [HFR.out, D1.out]; rfl⟩
        · have d1 : decide (ci < 0) = false := by simpa using h1
          have D1 := Lib.hid d1
          clear h1
          go_wp2
          go_meet
          exact ⟨rfl, by rw [HFR.out, D1.out]; rfl⟩
      case rest =>
        obtain ⟨rfl, rfl⟩ := hcut
        go_upto_if 49 with fail
        go_cut [] (fun W => ∃ (u : ASt) (q f0 : Nat) (vs' : List Value) (data' : List Int), Hid (Mid wc sb vs (refRows u all data') W vs' ∧ RefOk u all data') ∧ vs'[1]? = vs[1]? ∧ vs'[2]? = vs[2]? ∧ Hid (u.cur r = some (q, f0)) ∧ u.many = m ∧ ad = 16 * q + f0 ∧ Hid (t = curTo u r q (f0 + n)) ∧ f0 + n ≤ 16 ∧ q ≤ 100000)
        case first =>
          cases fr with
          | true =>
            have hc : ∀ p f, s.cur r = some (p, f) → ¬ f + n ≤ 16 := by
              intro p f hcr
              have h1 := HFR.out
              rw [HCI.out, HFI.out] at h1
              unfold curI fillI at h1
              rw [hcr] at h1
              simp at h1
              omega
            have hpl := place_fresh s r n hb hc
            have htk : ∀ W0, Kept Nil wc W0 → Calls Try.prog 36 #[.pointer (some ⟨sb, 0, none⟩), .int .i64 (r : Int), .int .i64 1] W0 fun e w2 => e = .returned (.int .i64 (findRun s.owner 1 : Int)) ∧
                ∃ vs' data', Mid W0 sb vs (refRows (takenTo s (findRun s.owner 1) 1 r) all data') w2 vs' ∧ Same vs vs' ∧ RefOk (takenTo s (findRun s.owner 1) 1 r) all data' := fun W0 k => ref_take hl (HR.out.kept k (fun i hi => hi.elim)) hO hW r 1 (by omega) (by omega) (by omega)
            have hq2 := findRun_le s.owner 1 (by omega)
            obtain ⟨q, hq⟩ : ∃ q, q = findRun s.owner 1 := ⟨_, rfl⟩
            rw [← hq] at hpl hq2 htk
            have TK := Lib.hid htk
            have hadq : ad = 16 * q := by rw [HA.out, hpl]
            have htt : t = curTo (takenTo s q 1 r) r q n := by rw [HT.out, hpl]
            have HADQ := Lib.hid hadq
            have HTT := Lib.hid htt
            clear hc hpl htk hq hadq htt p1 p2 f1 f2 q2
            go_wp2_with fail
            go_region_held3 (fun W => W.cell? ⟨sb, 1, none⟩ = some (.slice (some ⟨g1, 0, none⟩) m c1))
              (first | go_keep | assumption)
              (first | (go_at_call 36; refine (TK.out _ (Kept.drew (Kept.refl _ _))).mono ?_; rintro e w2 ⟨rfl, vs2, data2, hM2, hS2, hO2⟩; obtain ⟨qq1, pp1, ff1, ll1, lb2, hlen1⟩ := row1_at hM2.recs ((hS2 1 (by omega) (by omega)).trans V1.out) HM.out.symm hrm'; have HL1 := Lib.hid hlen1; clear hlen1))
            rename_i hHeld
            clear hHeld
            have hM3 := hM2.before (Kept.drew (Kept.refl _ _))
            have y1 := (hS2 1 (by omega) (by omega)).trans V1.out
            have y2 := (hS2 2 (by omega) (by omega)).trans V2.out
            obtain ⟨qq2, pp2, ff2, ll2, _, hlen2⟩ := row2_at hM2.recs y2 HM.out.symm hrm'
            obtain ⟨R1, K1⟩ := hM3.recs.written (i := 1) y1 rfl HL1.out r (.int .i64 (q : Int))
            obtain ⟨R2, K2⟩ := R1.written (i := 2) y2 rfl hlen2 r (.int .i64 ((0 : Nat) : Int))
            have hMb := (hM3.next R1 K1 (fun j hj => .inl hj) hM3.len).next R2 K2 (fun j hj => .inl hj) hM3.len
            rw [show ((refRows (takenTo s q 1 r) all data2).set 1 (3, (curL (takenTo s q 1 r)).set r (.int .i64 (q : Int)))).set 2 (3, (fillL (takenTo s q 1 r)).set r (.int .i64 ((0 : Nat) : Int))) = refRows (curTo (takenTo s q 1 r) r q 0) all data2 from rows_cur _ _ _ _ _ _] at hMb
            have hg12 : g1 ≠ g2 := fun e => by
              have := hM2.recs.apart 1 2 _ _ g1 y1 y2 rfl (by rw [e]; rfl)
              omega
            have hg2 : g2 ≠ sb := fun e => hM2.recs.far 2 _ y2 (by rw [e]; rfl)
            have MB := Lib.hid hMb
            have S2 := Lib.hid hS2
            have O2 := Lib.hid hO2
            clear hM2 hM3 y1 y2 R1 R2 K1 K2 hMb hS2 hO2 hlen2
            go_wp2
            go_meet
            exact ⟨curTo (takenTo s q 1 r) r q 0, q, 0, vs2, data2, ⟨MB.out, O2.out.curTo r q 0⟩, S2.out 1 (by omega) (by omega), S2.out 2 (by omega) (by omega), Lib.hid (by show (if r = r then some (q, 0) else _) = _; rw [if_pos rfl]), HM.out.symm, by rw [HADQ.out]; rfl, Lib.hid (by rw [HTT.out, curTo_twice, Nat.zero_add]), by omega, by omega⟩
          | false =>
            have hfit : ∃ p f, s.cur r = some (p, f) ∧ f + n ≤ 16 := by
              have h1 := HFR.out
              rw [HCI.out, HFI.out] at h1
              unfold curI fillI at h1
              cases hcr : s.cur r with
              | none => rw [hcr] at h1; simp at h1
              | some pf =>
                obtain ⟨p, f⟩ := pf
                rw [hcr] at h1
                simp at h1
                exact ⟨p, f, rfl, by omega⟩
            obtain ⟨q, f0, hcr, hf⟩ := hfit
            have hpl := place_fits s r n q f0 hb hcr hf
            have hadq : ad = 16 * q + f0 := by rw [HA.out, hpl]
            have htt : t = curTo s r q (f0 + n) := by rw [HT.out, hpl]
            have hqb : q ≤ 100000 := by
              have h1 := HCI.out
              unfold curI at h1
              rw [hcr] at h1
              simp only at h1
              omega
            have HADQ := Lib.hid hadq
            have HTT := Lib.hid htt
            have HCR := Lib.hid hcr
            clear hpl hadq htt hcr
            go_wp2
            go_meet
            exact ⟨s, q, f0, vs, data, ⟨Mid.start HR.out hl, hO⟩, rfl, rfl, HCR, HM.out.symm, HADQ.out, HTT, hf, hqb⟩
        case rest =>
          clear q1 p1 f1 q2 p2 f2 lb lg1 lg2 hb1 hb2 hb3 hb4
          obtain ⟨u, q, f0, vs', data', hMO, s1, s2, hcur, hum, hadq, ht, hfn, hq⟩ := hcut
          have y1 := s1.trans V1.out
          have y2 := s2.trans V2.out
          obtain ⟨qq1, pp1, ff1, ll1, lb2, hlen1⟩ := row1_at hMO.out.1.recs y1 hum hrm'
          obtain ⟨qq2, pp2, ff2, ll2, _, hlen2⟩ := row2_at hMO.out.1.recs y2 hum hrm'
          have ec : curI u r = (q : Int) := by unfold curI; rw [hcur.out]
          have ef : fillI u r = (f0 : Int) := by unfold fillI; rw [hcur.out]
          rw [ec] at pp1
          rw [ef] at pp2
          have er : (refRows u all data').set 2 (3, (fillL u).set r (.int .i64 ((f0 + n : Nat) : Int))) = refRows t all data' := rows_fill (by omega) ⟨f0, hcur.out⟩ ht.out
          have hMb := fun (W0 : World) (k : Kept Nil wc W0) => (hMO.out.1.after k).next (rows' := refRows t all data') (by rw [← er]; exact ((hMO.out.1.after k).recs.written (i := 2) y2 rfl hlen2 r (.int .i64 ((f0 + n : Nat) : Int))).1) ((hMO.out.1.after k).recs.written (i := 2) y2 rfl hlen2 r (.int .i64 ((f0 + n : Nat) : Int))).2 (fun j hj => .inl hj) hMO.out.1.len
          have hO3 : RefOk t all data' := by rw [ht.out]; exact hMO.out.2.curTo r q (f0 + n)
          have MB := Lib.hid (And.intro hMb hO3)
          have HADQ := Lib.hid hadq
          clear y1 y2 ec ef hMb er hO3 s1 s2 hlen1 hlen2 hadq
          go_wp2_with fail
          go_quiet (fail)
          have kW : Kept Nil wc (wc.drewN nq) := Kept.drewN (Kept.refl _ _) _
          obtain ⟨W0, hW0⟩ : ∃ W0, W0 = wc.drewN nq := ⟨_, rfl⟩
          rw [← hW0] at kW ⊢
          have qq3 := kW.cell qq2 id
          have pp3 := kW.cell pp2 id
          have ff3 : W0.frozen? ⟨g2, r, none⟩ = false := by rw [hW0]; exact ff2
          have ll3 : g2 < W0.heap.size := Nat.lt_of_lt_of_le ll2 kW.size
          have lb3 : sb < W0.heap.size := Nat.lt_of_lt_of_le lb2 kW.size
          have KW := Lib.hid kW
          clear hW0 qq1 pp1 ff1 ll1 qq2 pp2 ff2 ll2 lb2 kW
          go_wp2_with fail
          go_still_tail 15, (by kernel_rfl)
          change wpList _ _ _ _ _ (World.drew _)
          go_wp2
          go_meet
          have hz := (MB.out.1 W0 KW.out).after (Kept.drew (Kept.refl _ _))
          rw [Int.natCast_add] at hz
          exact ⟨by have := HADQ.out; congr 1; omega, vs', all, data', ⟨hz, MB.out.2⟩⟩
  case rest =>
    clear lb
    obtain ⟨rfl, vs', all', data', hM⟩ := hcut
    have hO2 := hM.out.2
    rw [HT.out] at hO2
    have hin := place_inside hG hr hn1 hO2
    have hfin := RefOk.made hG hr hn1 hn2 hO2
    have hev2 := hO2.ever
    have hdl := hO2.dlen
    rw [← HT.out] at hdl
    rw [place_ever] at hev2
    rw [← HA.out] at hin hfin
    have FIN := Lib.hid hfin
    have hM1 := hM.out.1
    obtain ⟨dl, hdl'⟩ : ∃ dl, dl = data'.length := ⟨_, rfl⟩
    rw [← hdl'] at hdl hin
    have hdm : dl ≤ 1000000 := by omega
    have DL := Lib.hid hdl'
    obtain ⟨m, hm⟩ : ∃ m, m = all'.length := ⟨_, rfl⟩
    have hmm : m ≤ 200 := by omega
    have HM := Lib.hid hm
    have M0 := Lib.hid hM1
    clear hO2 hfin hev2 hdl hM1 hdl' hm hM
    go_wp2_with fail
    go_loopw [9] (fun s9 W => ∃ k : Nat, k ≤ n ∧ s9 = .int .i64 (k : Int) ∧ Hid (Mid w' sb vs (refRows t all' (zset data' ad k)) W vs')) (fun s9 _ => n - (intOf s9).toNat)
    case atStart => exact ⟨0, Nat.zero_le _, rfl, M0.out⟩
    case round =>
      obtain ⟨k, hk, rfl, hM⟩ := hrel
      have lb := hM.out.recs.blk.lt
      by_cases hkn : k < n
      · obtain ⟨a7, c7, v7, q7, o7⟩ := hM.out.recs.at 7 (e := 2) (xs := ints (zset data' ad k)) rfl
        have hil : (ints (zset data' ad k)).length = dl := by unfold ints; rw [List.length_map, zset_length, DL.out]
        rw [hil] at v7 q7 o7
        have hlt : ad + k < dl := by omega
        obtain ⟨g7, e7, l7, p7, f7⟩ := row_elem o7 hlt
        obtain ⟨u, hu⟩ : ∃ u, (ints (zset data' ad k))[ad + k]? = some u := ⟨_, List.getElem?_eq_getElem (by rw [hil]; exact hlt)⟩
        rw [hu] at p7
        rw [e7] at v7 q7
        obtain ⟨R1, K1⟩ := hM.out.recs.written (i := 7) v7 rfl hil.symm (ad + k) (.int .i64 0)
        have e1 : (ints (zset data' ad k)).set (ad + k) (.int .i64 0) = ints (zset data' ad (k + 1)) := by
          show _ = ints ((zset data' ad k).set (ad + k) 0)
          unfold ints; rw [List.map_set]
        rw [e1] at R1
        have hnx : Mid w' sb vs (refRows t all' (zset data' ad (k + 1))) _ vs' := hM.out.next R1 K1 (fun j hj => .inl hj) hM.out.len
        have HNX := Lib.hid hnx
        clear R1 K1 hnx hu e7 v7 hil o7 l7 e1
        go_wp2
        go_roundw
        case rel => exact ⟨k + 1, by omega, by go_num, HNX.out⟩
        case measure => simp [intOf]; omega
      · have hkn' : k = n := by omega
        rw [hkn'] at hM
        clear hkn'
        obtain ⟨a4, c4, v4, q4, o4⟩ := hM.out.recs.at 4 (e := 3) (xs := all'.map fun x => .int .i64 (x.2.1 : Int)) rfl
        obtain ⟨a5, c5, v5, _, _⟩ := hM.out.recs.at 5 (e := 3) (xs := all'.map fun x => .int .i64 (x.2.2 : Int)) rfl
        obtain ⟨a6, c6, v6, _, _⟩ := hM.out.recs.at 6 (e := 3) (xs := all'.map fun x => .int .i64 (x.1 : Int)) rfl
        rw [List.length_map, ← HM.out] at v4 q4 o4 v5 v6
        have V4 := Lib.hid v4
        have V5 := Lib.hid v5
        have V6 := Lib.hid v6
        clear v4 v5 v6
        go_wp2_with (at_builtin; go_loud (refine wpList_append_lies _ rfl (.tmp 113) (.tmp 115) 28 rfl 0 3 ii (.int .i64 0) 1 8 Try.underlying28 hii hz0' hz1 hz2 rfl (by decide) _ _ _ rfl (o4.alloc _) ⟨wr.heap.size, 0, none⟩ 1 1 [.int .i64 (ad : Int)] rfl rfl (World.news_of_block (by exact Blk.new (by simp))) (by simp [Value.oneCell']) (by decide) (by unfold maxLen; omega) (by omega) (Nat.zero_le _) _ rfl ?_))
        intro g4 k4 w2 own2 gr2 li2 lt2
        obtain ⟨R1, K1, F1, B2⟩ := hM.out.recs.appended (i := 4) V4.out rfl ((Kept.refl Nil wr).alloc _) own2 (by simp only [List.length_append, List.length_singleton, List.length_map, HM.out]) gr2 (li2.imp id (fun e => by first | omega | (simp at e ⊢; omega)))
        have z4 := B2.cell 4
        have z5 := B2.cell 5
        rw [V4.out] at z4
        rw [V5.out] at z5
        have zf := B2.frozen 4
        have zl := B2.lt
        have hM2 := hM.out.next R1 K1 F1 (by simp only [List.length_set]; exact hM.out.len)
        have W5 : (vs'.set 4 (.slice (some ⟨g4, 0, none⟩) (m + 1) k4))[5]? = some (.slice a5 m c5) := by rw [List.getElem?_set, if_neg (by omega)]; exact V5.out
        have W6 : (vs'.set 4 (.slice (some ⟨g4, 0, none⟩) (m + 1) k4))[6]? = some (.slice a6 m c6) := by rw [List.getElem?_set, if_neg (by omega)]; exact V6.out
        have o5 := R1.own 5 _ 3 (all'.map fun x => .int .i64 (x.2.2 : Int)) W5 rfl
        rw [List.length_map, ← HM.out] at o5
        have V5' := Lib.hid W5
        have V6' := Lib.hid W6
        have M2 := Lib.hid hM2
        clear W5 W6 R1 K1 F1 hM2 own2 gr2 li2 q4 o4
        go_wp2_with (at_builtin; go_loud (refine wpList_append_lies _ rfl (.tmp 123) (.tmp 125) 28 rfl 0 3 ii (.int .i64 0) 1 8 Try.underlying28 hii hz0' hz1 hz2 rfl (by decide) _ _ _ rfl (o5.alloc _) ⟨w2.heap.size, 0, none⟩ 1 1 [.int .i64 (n : Int)] rfl rfl (World.news_of_block (by exact Blk.new (by simp))) (by simp [Value.oneCell']) (by decide) (by unfold maxLen; omega) (by omega) (Nat.zero_le _) _ rfl ?_))
        intro g5 k5 w3 own3 gr3 li3 lt3
        obtain ⟨R1, K1, F1, B3⟩ := M2.out.recs.appended (i := 5) V5'.out rfl ((Kept.refl Nil _).alloc _) own3 (by simp only [List.length_append, List.length_singleton, List.length_map, HM.out]) gr3 (li3.imp id (fun e => by first | omega | (simp at e ⊢; omega)))
        have y5 := B3.cell 5
        have y6 := B3.cell 6
        rw [V5'.out] at y5
        rw [V6'.out] at y6
        have yf := B3.frozen 5
        have yl := B3.lt
        have hM3 := M2.out.next R1 K1 F1 (by simp only [List.length_set]; exact hM.out.len)
        have W6 : ((vs'.set 4 (.slice (some ⟨g4, 0, none⟩) (m + 1) k4)).set 5 (.slice (some ⟨g5, 0, none⟩) (m + 1) k5))[6]? = some (.slice a6 m c6) := by rw [List.getElem?_set, if_neg (by omega)]; exact V6'.out
        have o6 := R1.own 6 _ 3 (all'.map fun x => .int .i64 (x.1 : Int)) W6 rfl
        rw [List.length_map, ← HM.out] at o6
        have V6'' := Lib.hid W6
        have M3 := Lib.hid hM3
        clear W6 R1 K1 F1 hM3 own3 gr3 li3 z4 z5 zf zl o5
        go_wp2_with (at_builtin; go_loud (refine wpList_append_lies _ rfl (.tmp 133) (.tmp 135) 28 rfl 0 3 ii (.int .i64 0) 1 8 Try.underlying28 hii hz0' hz1 hz2 rfl (by decide) _ _ _ rfl (o6.alloc _) ⟨w3.heap.size, 0, none⟩ 1 1 [.int .i64 (r : Int)] rfl rfl (World.news_of_block (by exact Blk.new (by simp))) (by simp [Value.oneCell']) (by decide) (by unfold maxLen; omega) (by omega) (Nat.zero_le _) _ rfl ?_))
        intro g6 k6 w4 own4 gr4 li4 lt4
        obtain ⟨R1, K1, F1, B4⟩ := M3.out.recs.appended (i := 6) V6''.out rfl ((Kept.refl Nil _).alloc _) own4 (by simp only [List.length_append, List.length_singleton, List.length_map, HM.out]) gr4 (li4.imp id (fun e => by first | omega | (simp at e ⊢; omega)))
        have x6 := B4.cell 6
        rw [V6''.out] at x6
        have xf := B4.frozen 6
        have xl := B4.lt
        have hM4 := M3.out.next R1 K1 F1 (by simp only [List.length_set]; exact hM.out.len)
        have M4 := Lib.hid hM4
        clear R1 K1 F1 hM4 own4 gr4 li4 y5 y6 yf yl o6
        go_wp2
        go_ret2
        refine ⟨rfl, _, ⟨sb, _, all' ++ [(r, ad, n)], zset data' ad n, rfl, rfl, M4.out.len, ?_, FIN.out⟩, M4.out.new, M4.out.kept⟩
        have er : (((refRows t all' (zset data' ad n)).set 4 (3, all'.map (fun x => Value.int .i64 (x.2.1 : Int)) ++ [Value.int .i64 (ad : Int)])).set 5 (3, all'.map (fun x => Value.int .i64 (x.2.2 : Int)) ++ [Value.int .i64 (n : Int)])).set 6 (3, all'.map (fun x => Value.int .i64 (x.1 : Int)) ++ [Value.int .i64 (r : Int)]) =
            refRows (s.made r n) (all' ++ [(r, ad, n)]) (zset data' ad n) := by
          have e0 : refRows (s.made r n) (all' ++ [(r, ad, n)]) (zset data' ad n) = refRows t (all' ++ [(r, ad, n)]) (zset data' ad n) := by rw [HT.out]; rfl
          rw [e0]
          unfold refRows
          simp only [List.map_append, List.map_cons, List.map_nil]
          rfl
        rw [← er]
        exact M4.out.recs
end Go.Proofs.Ytfoacgdahonapaa
