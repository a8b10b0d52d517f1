/- The reference's store in memory; what its reading methods answer. -/
import Derived.Test.YtfoacgdahonapaaRecs
namespace Go.Proofs.Ytfoacgdahonapaa
open Go.RowKit Abs
set_option linter.unusedVariables false

def curI (s : ASt) (r : Nat) : Int := match s.cur r with | none => -1 | some (p, _) => p
def fillI (s : ASt) (r : Nat) : Int := match s.cur r with | none => 0 | some (_, f) => f
def ownI : Option Nat → Int | none => -1 | some r => r
def openedL (s : ASt) : List Value := (List.range s.many).map fun r => .bool (decide (r ∈ s.opens))
def curL (s : ASt) : List Value := (List.range s.many).map fun r => .int .i64 (curI s r)
def fillL (s : ASt) : List Value := (List.range s.many).map fun r => .int .i64 (fillI s r)
def ownL (s : ASt) : List Value := s.owner.map fun o => .int .i64 (ownI o)

/-- A cell as the reference keeps it: its region, its address, its words. -/
abbrev Ent := Nat × Nat × Nat

def refRows (s : ASt) (all : List Ent) (data : List Int) : List (TypeId × List Value) :=
  [(4, openedL s), (3, curL s), (3, fillL s), (3, ownL s), (3, all.map fun x => .int .i64 (x.2.1 : Int)), (3, all.map fun x => .int .i64 (x.2.2 : Int)),
   (3, all.map fun x => .int .i64 (x.1 : Int)), (2, ints data)]

structure RefOk (s : ASt) (all : List Ent) (data : List Int) : Prop where
  live : all.filter (fun x => decide (x.1 ∈ s.opens)) = s.cells.map (fun c => (c.reg, c.addr, c.ws.length))
  ever : all.length = s.ever
  regs : ∀ x ∈ all, x.1 < s.many
  size : ∀ x ∈ all, x.2.2 ≤ 4097
  dlen : data.length = 16 * s.owner.length
  vals : ∀ c ∈ s.cells, ∀ (j : Nat) (z : Int), c.ws[j]? = some z → data[c.addr + j]? = some z

def RefAt (w : World) (sp : Addr) (s : ASt) (F : Nat → Prop) : Prop :=
  ∃ sb vs all data, sp = ⟨sb, 0, none⟩ ∧ F = recF sb vs ∧ vs.length = 8 ∧ Recs w sb vs (refRows s all data) 31 ∧ RefOk s all data

theorem ref_lt {w : World} {sp : Addr} {s : ASt} {F : Nat → Prop} (h : RefAt w sp s F) : ∀ k, F k → k < w.heap.size := by
  obtain ⟨sb, vs, all, data, rfl, rfl, _, hR, _⟩ := h
  exact hR.lt

theorem ref_frame {w w' : World} {sp : Addr} {s : ASt} {F : Nat → Prop} (h : RefAt w sp s F) (hb : ∀ k, F k → w'.heap[k]? = w.heap[k]?) : RefAt w' sp s F := by
  obtain ⟨sb, vs, all, data, rfl, rfl, hl, hR, hO⟩ := h
  exact ⟨sb, vs, all, data, rfl, rfl, hl, hR.keep hb, hO⟩

/-- A field's slice, and its elements. -/
theorem Recs.at {w : World} {sb : Nat} {vs : List Value} {rows : List (TypeId × List Value)} {T : TypeId} (h : Recs w sb vs rows T) (i : Nat) {e : TypeId} {xs : List Value} (hr : rows[i]? = some (e, xs)) :
    ∃ a c, vs[i]? = some (.slice a xs.length c) ∧ w.cell? ⟨sb, i, none⟩ = some (.slice a xs.length c) ∧ w.ownsRow 0 e 1 (.slice a xs.length c) xs.length xs := by
  have hi : i < vs.length := by rw [h.len]; exact (List.getElem?_eq_some_iff.1 hr).1
  have hv : vs[i]? = some vs[i] := List.getElem?_eq_getElem hi
  have ho := h.own i _ e xs hv hr
  obtain ⟨a, c, hac⟩ : ∃ a c, vs[i] = .slice a xs.length c := by
    rcases ho.2 with ⟨h1, h2⟩ | ⟨g, cap, cur, h1, _⟩
    · exact ⟨none, 0, by rw [h1, h2]⟩
    · exact ⟨_, _, h1⟩
  refine ⟨a, c, by rw [hv, hac], by rw [h.cell, hv, hac], by rw [← hac]; exact ho⟩

theorem row_elem {w : World} {base : Nat} {e : TypeId} {a : Option Addr} {n c : Nat} {xs : List Value} (h : w.ownsRow base e 1 (.slice a n c) n xs) {j : Nat} (hj : j < n) :
    ∃ g, a = some ⟨g, 0, none⟩ ∧ g < w.heap.size ∧ w.cell? ⟨g, j, none⟩ = xs[j]? ∧ w.frozen? ⟨g, j, none⟩ = false := by
  obtain ⟨g, cap, hq, hg, _, _, hc⟩ := row_some h (by omega)
  simp only [Value.slice.injEq, true_and] at hq
  obtain ⟨rfl, rfl⟩ := hq
  exact ⟨g, rfl, hg, hc j (by omega), h.frozenAt j⟩

set_option maxRecDepth 100000 in
theorem ref_isOpen {w : World} {sp : Addr} {s : ASt} {F : Nat → Prop} (h : RefAt w sp s F) (hG : s.Good) (hm : s.many ≤ 200) (r : Int) (hr : I64 r) :
    Calls Try.prog 34 #[.pointer (some sp), .int .i64 r] w fun e w' => e = .returned (.bool (decide (s.isOpen r))) ∧ w' = w := by
  obtain ⟨sb, vs, all, data, rfl, rfl, hl, hR, hO⟩ := h
  obtain ⟨a, c, hv, q0, ho⟩ := hR.at 0 (e := 4) (xs := openedL s) rfl
  have hlen : (openedL s).length = s.many := by simp [openedL]
  rw [hlen] at q0 ho
  have lb := hR.blk.lt
  obtain ⟨hr1, hr2⟩ := hr
  by_cases h0 : 0 ≤ r
  · have d0 : decide (0 ≤ r) = true := by simpa using h0
    by_cases h1 : r < s.many
    · obtain ⟨k, rfl⟩ := Int.eq_ofNat_of_zero_le h0
      obtain ⟨g, rfl, hg, qg, _⟩ := row_elem ho (j := k) (by omega)
      have qg2 : (openedL s)[k]? = some (.bool (decide (k ∈ s.opens))) := by
        unfold openedL
        rw [List.getElem?_map, List.getElem?_range (by omega)]; rfl
      rw [qg2] at qg
      have hd : decide (s.isOpen (k : Int)) = decide (k ∈ s.opens) := by simp [ASt.isOpen]
      rw [hd]
      obtain ⟨b, hb⟩ : ∃ b, b = decide (k ∈ s.opens) := ⟨_, rfl⟩
      rw [← hb] at qg ⊢
      clear qg2 hb hd
      go_enter Try.func34, Try.ntmps34
      go_wp2
      go_ret
      exact ⟨rfl, rfl⟩
    · have hd : decide (s.isOpen r) = false := by
        rw [decide_eq_false_iff_not]
        intro hh
        have := hG.lt _ hh.2
        omega
      rw [hd]
      have d1 : decide (r < s.many) = false := by simpa using h1
      clear hd
      go_enter Try.func34, Try.ntmps34
      go_wp2
      go_ret
      exact ⟨rfl, rfl⟩
  · have hd : decide (s.isOpen r) = false := by simp [ASt.isOpen, h0]
    rw [hd]
    have d0 : decide (0 ≤ r) = false := by simpa using h0
    clear hd
    go_enter Try.func34, Try.ntmps34
    go_wp2
    go_ret
    exact ⟨rfl, rfl⟩

/-- Is it the entry of that region and address? -/
def isEnt (r a : Int) (x : Ent) : Bool := decide ((x.1 : Int) = r) && decide ((x.2.1 : Int) = a)

theorem find_live {s : ASt} {all : List Ent} {data : List Int} (h : RefOk s all data) {r : Int} (a : Int) (ho : s.isOpen r) :
    all.find? (isEnt r a) = (s.cells.find? (·.is r a)).map (fun c => (c.reg, c.addr, c.ws.length)) := by
  have h1 : (all.filter (fun x => decide (x.1 ∈ s.opens))).find? (isEnt r a) = all.find? (isEnt r a) := by
    rw [List.find?_filter]
    congr 1
    funext x
    by_cases hx : (x.1 : Int) = r
    · have : x.1 ∈ s.opens := by have := ho.2; rw [← hx] at this; simpa using this
      simp [this]
    · simp [isEnt, hx]
  rw [← h1, h.live, List.find?_map]
  rfl

theorem find_first {all : List Ent} {k : Nat} {x : Ent} {m : Ent → Bool} (hx : all[k]? = some x) (hn : ∀ y ∈ all.take k, m y = false) (hm : m x = true) : all.find? m = some x := by
  obtain ⟨hk, rfl⟩ := List.getElem?_eq_some_iff.1 hx
  conv => lhs; rw [← List.take_append_drop k all]
  rw [List.find?_append, List.find?_eq_none.2 (fun y hy => by simp [hn y hy]), List.drop_eq_getElem_cons hk, List.find?_cons, hm]
  rfl

set_option maxRecDepth 100000 in
set_option maxHeartbeats 800000 in
theorem ref_find {w : World} {sp : Addr} {s : ASt} {F : Nat → Prop} (h : RefAt w sp s F) (hG : s.Good) (hW : s.Within 200) (r a f : Int) (hr : I64 r) (ha : I64 a) (hf : I64 f) :
    Calls Try.prog 38 #[.pointer (some sp), .int .i64 r, .int .i64 a, .int .i64 f] w fun e w' => e = .returned (.int .i64 (s.asked r a f)) ∧ w' = w := by
  have io := ref_isOpen h hG hW.many r hr
  obtain ⟨sb, vs, all, data, rfl, rfl, hl, hR, hO⟩ := h
  obtain ⟨a4, c4, _, q4, o4⟩ := hR.at 4 (e := 3) (xs := all.map fun x => .int .i64 (x.2.1 : Int)) rfl
  obtain ⟨a5, c5, _, q5, o5⟩ := hR.at 5 (e := 3) (xs := all.map fun x => .int .i64 (x.2.2 : Int)) rfl
  obtain ⟨a6, c6, _, q6, o6⟩ := hR.at 6 (e := 3) (xs := all.map fun x => .int .i64 (x.1 : Int)) rfl
  rw [List.length_map] at q4 q5 q6 o4 o5 o6
  have lb := hR.blk.lt
  have hev : all.length ≤ 200 := by rw [hO.ever]; exact hW.ever
  obtain ⟨n, hn⟩ : ∃ n, n = all.length := ⟨_, rfl⟩
  rw [← hn] at q4 q5 q6 o4 o5 o6 hev
  have HN := Lib.hid hn
  clear hn
  by_cases ho : s.isOpen r
  · have hd : decide (s.isOpen r) = true := by simpa using ho
    rw [hd] at io
    have IO := Lib.hid io
    have hfl := find_live hO a ho
    have hask : s.asked r a f = match all.find? (isEnt r a) with | none => 71 | some x => if 0 ≤ f ∧ f < x.2.2 then 0 else 72 := by
      unfold ASt.asked
      rw [if_pos ho, hfl]
      cases s.cells.find? (·.is r a) <;> rfl
    have HA := Lib.hid hask
    clear io hd hask hfl
    obtain ⟨z, hz⟩ : ∃ z, z = s.asked r a f := ⟨_, rfl⟩
    rw [← hz]
    have HZ := Lib.hid hz
    clear hz
    go_enter Try.func38, Try.ntmps38
    go_wp2_with fail
    refine IO.out.mono ?_
    rintro e w' ⟨rfl, rfl⟩
    go_wp2_with fail
    go_loop [9] (fun s9 => ∃ k : Nat, k ≤ n ∧ s9 = .int .i64 (k : Int) ∧ Hid (∀ y ∈ all.take k, isEnt r a y = false)) (fun s9 => n - (intOf s9).toNat)
    case atStart => exact ⟨0, Nat.zero_le _, rfl, fun y hy => by simp at hy⟩
    case round =>
      obtain ⟨k, hk, rfl, hno⟩ := hrel
      by_cases hlt : k < n
      · obtain ⟨x, hx⟩ : ∃ x, all[k]? = some x := ⟨all[k]'(by rw [← HN.out]; exact hlt), List.getElem?_eq_getElem _⟩
        obtain ⟨g4, e4, l4, p4, _⟩ := row_elem o4 hlt
        obtain ⟨g5, e5, l5, p5, _⟩ := row_elem o5 hlt
        obtain ⟨g6, e6, l6, p6, _⟩ := row_elem o6 hlt
        rw [List.getElem?_map, hx] at p4 p5 p6
        simp only [Option.map_some] at p4 p5 p6
        have hsz := hO.size x (List.mem_of_getElem? hx)
        obtain ⟨xr, xa, xl⟩ := x
        simp only at p4 p5 p6 hsz
        rw [e4] at q4
        rw [e5] at q5
        rw [e6] at q6
        have hnext : isEnt r a (xr, xa, xl) = false → Hid (∀ y ∈ all.take (k + 1), isEnt r a y = false) := by
          intro hf y hy
          obtain ⟨h1, h2⟩ := List.getElem?_eq_some_iff.1 hx
          rw [List.take_succ_eq_append_getElem h1, List.mem_append, List.mem_singleton, h2] at hy
          rcases hy with hy | rfl
          · exact hno.out y hy
          · exact hf
        have HNX := Lib.hid hnext
        have HX := Lib.hid hx
        clear e4 e5 e6 hnext hx
        by_cases h1 : (xr : Int) = r
        · have t1 : ((xr : Int) == r) = true := by rw [beq_iff_eq]; exact h1
          by_cases h2 : (xa : Int) = a
          · have t2 : ((xa : Int) == a) = true := by rw [beq_iff_eq]; exact h2
            have hfx : all.find? (isEnt r a) = some (xr, xa, xl) := find_first HX.out hno.out (by simp [isEnt, h1, h2])
            have hzv : z = if 0 ≤ f ∧ f < xl then 0 else 72 := by rw [HZ.out, HA.out, hfx]
            have HZV := Lib.hid hzv
            clear h1 h2 hfx hzv
            by_cases h3 : f < 0
            · have t3 : decide (f < 0) = true := by simpa using h3
              go_wp2
              go_ret
              refine ⟨?_, rfl⟩
              rw [HZV.out, if_neg (by omega)]; rfl
            · have t3 : decide (f < 0) = false := by simpa using h3
              by_cases h4 : (xl : Int) ≤ f
              · have t4 : decide ((xl : Int) ≤ f) = true := by simpa using h4
                go_wp2
                go_ret
                refine ⟨?_, rfl⟩
                rw [HZV.out, if_neg (by omega)]; rfl
              · have t4 : decide ((xl : Int) ≤ f) = false := by simpa using h4
                go_wp2
                go_ret
                refine ⟨?_, rfl⟩
                rw [HZV.out, if_pos (by omega)]; rfl
          · have t2 : ((xa : Int) == a) = false := by rw [beq_eq_false_iff_ne]; exact h2
            have hfalse := HNX.out (by simp [isEnt, h2])
            clear h1 h2
            go_wp2
            go_round
            case rel => exact ⟨k + 1, by omega, by go_num, hfalse⟩
            case measure => simp [intOf]; omega
        · have t1 : ((xr : Int) == r) = false := by rw [beq_eq_false_iff_ne]; exact h1
          have hfalse := HNX.out (by simp [isEnt, h1])
          clear h1
          go_wp2
          go_round
          case rel => exact ⟨k + 1, by omega, by go_num, hfalse⟩
          case measure => simp [intOf]; omega
      · have hnone : all.find? (isEnt r a) = none := by
          rw [List.find?_eq_none]
          intro y hy
          have := hno.out y (by rw [List.take_of_length_le (by rw [← HN.out]; omega)]; exact hy)
          simp [this]
        have hzv : z = 71 := by rw [HZ.out, HA.out, hnone]
        have HZV := Lib.hid hzv
        clear hnone hzv
        go_wp2
        go_ret
        exact ⟨by rw [HZV.out]; rfl, rfl⟩
  · have hd : decide (s.isOpen r) = false := by simpa using ho
    rw [hd] at io
    rw [asked_shut ho]
    have IO := Lib.hid io
    clear io hd
    go_enter Try.func38, Try.ntmps38
    go_wp2_with fail
    refine IO.out.mono ?_
    rintro e w' ⟨rfl, rfl⟩
    go_wp2
    go_ret
    exact ⟨rfl, rfl⟩

set_option maxRecDepth 100000 in
set_option maxHeartbeats 800000 in
theorem ref_got {w : World} {sp : Addr} {s : ASt} {F : Nat → Prop} (h : RefAt w sp s F) (hG : s.Good) (hW : s.Within 200) (r a f : Int) (hr : I64 r) (ha : I64 a) (hf : I64 f) :
    Calls Try.prog 18 #[.pointer (some sp), .int .i64 r, .int .i64 a, .int .i64 f] w fun e w' => e = .returned (.tuple #[.int .i64 (s.got r a f), .int .i64 (s.asked r a f)]) ∧ w' = w := by
  have fd := ref_find h hG hW r a f hr ha hf
  obtain ⟨sb, vs, all, data, rfl, rfl, hl, hR, hO⟩ := h
  obtain ⟨a7, c7, _, q7, o7⟩ := hR.at 7 (e := 2) (xs := ints data) rfl
  have hil : (ints data).length = data.length := by unfold ints; rw [List.length_map]
  rw [hil] at q7 o7
  have lb := hR.blk.lt
  by_cases h0 : s.asked r a f = 0
  · have hopen : s.isOpen r := by
      by_cases ho : s.isOpen r
      · exact ho
      · rw [asked_shut ho] at h0; omega
    obtain ⟨c, hc⟩ : ∃ c, s.cells.find? (·.is r a) = some c := by
      unfold ASt.asked at h0
      rw [if_pos hopen] at h0
      cases hcc : s.cells.find? (·.is r a) with
      | none => rw [hcc] at h0; simp at h0
      | some c => exact ⟨c, rfl⟩
    have hcm := List.mem_of_find?_eq_some hc
    have hcis : c.is r a = true := by have := List.find?_some hc; simpa using this
    have hca := (is_iff c r a).1 hcis
    have hfl : 0 ≤ f ∧ f < c.ws.length := by
      unfold ASt.asked at h0
      rw [if_pos hopen, hc] at h0
      simp only at h0
      by_cases hh : 0 ≤ f ∧ f < c.ws.length
      · exact hh
      · rw [if_neg hh] at h0; omega
    obtain ⟨k, hk⟩ := Int.eq_ofNat_of_zero_le hfl.1
    have hkl : k < c.ws.length := by omega
    have hz := hO.vals c hcm k (c.ws[k]) (List.getElem?_eq_getElem hkl)
    have hgot : s.got r a f = c.ws[k] := by
      unfold ASt.got
      rw [if_pos h0, hc]
      simp only
      rw [hk, Int.toNat_natCast, List.getD_eq_getElem?_getD, List.getElem?_eq_getElem hkl]; rfl
    have hlt := (List.getElem?_eq_some_iff.1 hz).1
    obtain ⟨g, e7, l7, p7, _⟩ := row_elem o7 hlt
    have p7' : (ints data)[c.addr + k]? = some (.int .i64 c.ws[k]) := by unfold ints; rw [List.getElem?_map, hz]; rfl
    rw [p7'] at p7
    rw [e7] at q7
    rw [h0] at fd
    rw [h0, hgot]
    obtain ⟨ad, hd⟩ : ∃ ad, ad = c.addr := ⟨_, rfl⟩
    obtain ⟨zz, hzz⟩ : ∃ zz, zz = c.ws[k] := ⟨_, rfl⟩
    obtain ⟨dl, hdl⟩ : ∃ dl, dl = data.length := ⟨_, rfl⟩
    have had : a = (ad : Int) := by rw [hd]; exact hca.2.symm
    have hown := hW.owner
    have hdlen := hO.dlen
    rw [← hd, ← hzz] at p7
    rw [← hzz]
    rw [← hd, ← hdl] at hlt
    rw [← hdl] at q7 hdlen
    subst had
    subst hk
    have FD := Lib.hid fd
    clear fd hd hzz hdl hz p7' hgot h0 hc hca hcis hcm e7 hfl hil o7 hkl
    have b1 : ad + k < dl := hlt
    go_enter Try.func18, Try.ntmps18
    go_wp2_with fail
    refine FD.out.mono ?_
    rintro e w' ⟨rfl, rfl⟩
    go_wp2
    go_ret2
    exact ⟨rfl, rfl⟩
  · have hgot : s.got r a f = 0 := by unfold ASt.got; rw [if_neg h0]
    rw [hgot]
    obtain ⟨z, hz⟩ : ∃ z, z = s.asked r a f := ⟨_, rfl⟩
    rw [← hz] at fd h0 ⊢
    have t : (z != 0) = true := by rw [bne_iff_ne]; exact h0
    have FD := Lib.hid fd
    clear fd hz h0 hgot
    go_enter Try.func18, Try.ntmps18
    go_wp2_with fail
    refine FD.out.mono ?_
    rintro e w' ⟨rfl, rfl⟩
    go_wp2
    go_ret2
    exact ⟨rfl, rfl⟩

/-- A word of one cell is a word of no other. -/
theorem word_of {s : ASt} (g : s.Good) {c d : ACell} (hc : c ∈ s.cells) (hd : d ∈ s.cells) {j k : Nat} (hj : j < c.ws.length) (hk : k < d.ws.length) (h : c.addr + j = d.addr + k) : c.reg = d.reg ∧ c.addr = d.addr ∧ j = k := by
  obtain ⟨i, hi, rfl⟩ := List.mem_iff_getElem.1 hc
  obtain ⟨l, hl, rfl⟩ := List.mem_iff_getElem.1 hd
  have pf := List.pairwise_iff_getElem.1 g.far
  rcases Nat.lt_trichotomy i l with hlt | heq | hlt
  · have := pf i l hi hl hlt
    unfold ACell.far at this; omega
  · subst heq; exact ⟨rfl, rfl, by omega⟩
  · have := pf l i hl hi hlt
    unfold ACell.far at this; omega

theorem RefOk.stored {s : ASt} {all : List Ent} {data : List Int} (h : RefOk s all data) (g : s.Good) {c : ACell} (hc : c ∈ s.cells) {k : Nat} (hk : k < c.ws.length) (v : Int) (h0 : s.asked c.reg c.addr k = 0) :
    RefOk (s.stored c.reg c.addr k v) all (data.set (c.addr + k) v) := by
  rw [stored_cells v h0]
  have hlk := wr_like c.reg c.addr k v
  refine ⟨?_, h.ever, h.regs, h.size, by rw [List.length_set]; exact h.dlen, ?_⟩
  · show all.filter _ = (s.cells.map (wr c.reg c.addr ((k : Int)).toNat v)).map _
    rw [List.map_map, h.live]
    refine List.map_congr_left fun d _ => ?_
    have := wr_like c.reg c.addr ((k : Int)).toNat v d
    simp only [Function.comp]
    rw [this.1, this.2.1, this.2.2]
  · intro d hd j z hz
    obtain ⟨d0, hd0, rfl⟩ := List.mem_map.1 hd
    rw [Int.toNat_natCast] at hz ⊢
    have hlen := (List.getElem?_eq_some_iff.1 (h.vals c hc k c.ws[k] (List.getElem?_eq_getElem hk))).1
    rw [List.getElem?_set, (hlk d0).2.1]
    have hj : j < d0.ws.length := by
      have := (List.getElem?_eq_some_iff.1 hz).1
      rw [(hlk d0).2.2] at this; exact this
    by_cases he : c.addr + k = d0.addr + j
    · obtain ⟨w1, w2, w3⟩ := word_of g hc hd0 hk hj he
      rw [if_pos he, if_pos hlen]
      have hw : wr c.reg c.addr k v d0 = d0.put k v := by
        unfold wr; rw [if_pos ((is_iff _ _ _).2 ⟨by rw [w1], by rw [w2]⟩)]
      rw [hw] at hz
      simp only [ACell.put] at hz
      rw [List.getElem?_set, if_pos w3, if_pos (by omega)] at hz
      exact hz
    · rw [if_neg he]
      by_cases hdis : d0.is c.reg c.addr = true
      · have hw : wr c.reg c.addr k v d0 = d0.put k v := by unfold wr; rw [if_pos hdis]
        have hia := (is_iff _ _ _).1 hdis
        rw [hw] at hz
        simp only [ACell.put] at hz
        rw [List.getElem?_set, if_neg (by omega)] at hz
        exact h.vals d0 hd0 j z hz
      · have hw : wr c.reg c.addr k v d0 = d0 := by unfold wr; rw [if_neg hdis]
        rw [hw] at hz
        exact h.vals d0 hd0 j z hz

set_option maxRecDepth 100000 in
set_option maxHeartbeats 800000 in
theorem ref_stored {w : World} {sp : Addr} {s : ASt} {F : Nat → Prop} (h : RefAt w sp s F) (hG : s.Good) (hW : s.Within 200) (r a f v : Int) (hr : I64 r) (ha : I64 a) (hf : I64 f) (hv : I64 v) :
    Calls Try.prog 20 #[.pointer (some sp), .int .i64 r, .int .i64 a, .int .i64 f, .int .i64 v] w fun e w' => e = .returned (.int .i64 (s.asked r a f)) ∧ Now RefAt w F sp (s.stored r a f v) w' := by
  have fd := ref_find h hG hW r a f hr ha hf
  have h' := h
  obtain ⟨sb, vs, all, data, rfl, rfl, hl, hR, hO⟩ := h
  obtain ⟨a7, c7, hv7, q7, o7⟩ := hR.at 7 (e := 2) (xs := ints data) rfl
  have hil : (ints data).length = data.length := by unfold ints; rw [List.length_map]
  rw [hil] at q7 o7 hv7
  have lb := hR.blk.lt
  by_cases h0 : s.asked r a f = 0
  · have hopen : s.isOpen r := by
      by_cases ho : s.isOpen r
      · exact ho
      · rw [asked_shut ho] at h0; omega
    obtain ⟨c, hc⟩ : ∃ c, s.cells.find? (·.is r a) = some c := by
      have h1 := h0
      unfold ASt.asked at h1
      rw [if_pos hopen] at h1
      cases hcc : s.cells.find? (·.is r a) with
      | none => rw [hcc] at h1; simp at h1
      | some c => exact ⟨c, rfl⟩
    have hcm := List.mem_of_find?_eq_some hc
    have hcis : c.is r a = true := by have := List.find?_some hc; simpa using this
    have hca := (is_iff c r a).1 hcis
    have hfl : 0 ≤ f ∧ f < c.ws.length := by
      have h1 := h0
      unfold ASt.asked at h1
      rw [if_pos hopen, hc] at h1
      simp only at h1
      by_cases hh : 0 ≤ f ∧ f < c.ws.length
      · exact hh
      · rw [if_neg hh] at h1; omega
    obtain ⟨k, hk⟩ := Int.eq_ofNat_of_zero_le hfl.1
    have hkl : k < c.ws.length := by omega
    have hz := hO.vals c hcm k (c.ws[k]) (List.getElem?_eq_getElem hkl)
    have hlt := (List.getElem?_eq_some_iff.1 hz).1
    obtain ⟨g, e7, l7, p7, f7⟩ := row_elem o7 hlt
    have p7' : (ints data)[c.addr + k]? = some (.int .i64 c.ws[k]) := by unfold ints; rw [List.getElem?_map, hz]; rfl
    rw [p7'] at p7
    rw [e7] at q7 hv7
    rw [h0] at fd
    rw [h0]
    have hra : r = (c.reg : Int) ∧ a = (c.addr : Int) := ⟨hca.1.symm, hca.2.symm⟩
    have hO2 := hO.stored hG hcm hkl v (by rw [← hra.1, ← hra.2, ← hk]; exact h0)
    obtain ⟨hR2, hK2⟩ := hR.written (i := 7) hv7 rfl hil.symm (c.addr + k) (.int .i64 v)
    have hfin : Now RefAt w (recF sb vs) ⟨sb, 0, none⟩ (s.stored r a f v) (w.setCell ⟨g, c.addr + k, none⟩ (.int .i64 v)) := by
      refine ⟨recF sb vs, ⟨sb, vs, all, data.set (c.addr + k) v, rfl, rfl, hl, ?_, ?_⟩, fun _ hh => .inl hh, hK2⟩
      · rw [hra.1, hra.2, hk, stored_cells v (by rw [← hra.1, ← hra.2, ← hk]; exact h0)]
        have e1 : (ints data).set (c.addr + k) (.int .i64 v) = ints (data.set (c.addr + k) v) := by unfold ints; rw [List.map_set]
        rw [e1] at hR2
        exact hR2
      · rw [hra.1, hra.2, hk]; exact hO2
    have FIN := Lib.hid hfin
    obtain ⟨ad, hd⟩ : ∃ ad, ad = c.addr := ⟨_, rfl⟩
    obtain ⟨zz, hzz⟩ : ∃ zz, zz = c.ws[k] := ⟨_, rfl⟩
    obtain ⟨dl, hdl⟩ : ∃ dl, dl = data.length := ⟨_, rfl⟩
    have had : a = (ad : Int) := by rw [hd]; exact hra.2
    have hown := hW.owner
    have hdlen := hO.dlen
    rw [← hd, ← hzz] at p7
    rw [← hd] at f7 FIN
    rw [← hd, ← hdl] at hlt
    rw [← hdl] at q7 hdlen
    have HAD := Lib.hid had
    have HKK := Lib.hid hk
    rw [had, hk] at fd
    have FD := Lib.hid fd
    have b1 : ad + k < dl := hlt
    obtain ⟨S2, hS2⟩ : ∃ S2, S2 = s.stored r a f v := ⟨_, rfl⟩
    rw [← hS2] at FIN ⊢
    rw [had, hk]
    clear hS2 fd hd hzz hdl hz p7' h0 hc hca hcis hcm e7 hfl hil o7 hkl hra hO2 hR2 hK2 hfin had hk hv7
    go_enter Try.func20, Try.ntmps20
    go_wp2_with fail
    refine FD.out.mono ?_
    rintro e w' ⟨rfl, rfl⟩
    go_wp2
    go_ret
    exact ⟨rfl, FIN.out⟩
  · have hst : s.stored r a f v = s := by unfold ASt.stored; rw [if_neg h0]
    rw [hst]
    obtain ⟨z, hz⟩ : ∃ z, z = s.asked r a f := ⟨_, rfl⟩
    rw [← hz] at fd h0 ⊢
    have t : (z == 0) = false := by rw [beq_eq_false_iff_ne]; exact h0
    have FD := Lib.hid fd
    have HH := Lib.hid h'
    clear fd hz h0 hst h'
    go_enter Try.func20, Try.ntmps20
    go_wp2_with fail
    refine FD.out.mono ?_
    rintro e w' ⟨rfl, rfl⟩
    go_wp2
    go_ret
    exact ⟨rfl, _, HH.out, fun _ hh => .inl hh, Kept.refl _ _⟩
end Go.Proofs.Ytfoacgdahonapaa
