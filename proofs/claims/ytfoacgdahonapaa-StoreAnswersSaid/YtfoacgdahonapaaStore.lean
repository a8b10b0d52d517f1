/- The program's store in memory; its simplest methods. -/
import Derived.Test.YtfoacgdahonapaaMaps
import Derived.LaidEqlPtr
namespace Go.Proofs.Ytfoacgdahonapaa
open Go.RowKit Abs Tree
set_option linter.unusedVariables false

/-- What a block is to the store. -/
inductive Role where
  | store | memory | opens | pages | nodes
  | region (r : Nat) | taken (r : Nat) | cells (r : Nat)

/-- An open region in memory. -/
structure Reg where
  rb : Nat
  tv : Value
  cb : Nat
  ts : List (Nat × Nat)
  mn : Nat
  nx : Nat
  lf : Nat

/-- Where a store lies. -/
structure Lay where
  sb : Nat
  mb : Nat
  ob : Nat
  vs : List Value
  data : List Int
  cnt : Nat
  n : Nat
  reg : Nat → Reg
  T : Nat → Option Role

def sv (t : Nat × Nat) : List Value := [.int .i64 (t.1 : Int), .int .i64 (t.2 : Int)]

/-- Which pages wait. -/
def bits (s : ASt) : Nat → Bool := fun i => decide (s.owner[i]? = some none)

/-- The words of a region's cells. -/
def wordsIn (s : ASt) (r : Nat) : Nat := ((s.cells.filter (·.reg = r)).map (·.ws.length)).sum

structure RegAt (w : World) (s : ASt) (r : Nat) (x : Reg) : Prop where
  blk : Blk w x.rb [x.tv, .map (some x.cb), .int .i64 ((wordsIn s r : Nat) : Int), .int .i64 (x.nx : Int), .int .i64 (x.lf : Int)] 68
  own : w.ownsRow 0 72 2 x.tv x.ts.length (x.ts.flatMap sv)
  cells : MapF (plainElem Try.prog 3) zeroD w x.cb x.mn (fun a => (s.cells.find? (·.is r a)).map (·.ws.length))
  few : x.mn ≤ s.ever
  pages : ∀ p, s.owner[p]? = some (some r) ↔ ∃ t ∈ x.ts, t.1 ≤ p ∧ p < t.1 + t.2
  disj : x.ts.Pairwise (fun a b => a.1 + a.2 ≤ b.1 ∨ b.1 + b.2 ≤ a.1)
  pos : ∀ t ∈ x.ts, 1 ≤ t.2 ∧ t.1 + t.2 ≤ s.owner.length
  curN : s.cur r = none → x.lf = 0
  curS : ∀ p f, s.cur r = some (p, f) → x.lf + f = 16 ∧ x.nx = 16 * p + f

structure SAt (w : World) (sp : Addr) (s : ASt) (L : Lay) : Prop where
  sp : sp = ⟨L.sb, 0, none⟩
  store : Blk w L.sb [.pointer (some ⟨L.sb, 0, none⟩), .pointer (some ⟨L.mb, 0, none⟩)] 63
  pg : Pg w L.mb L.vs s.owner.length L.data (bits s) L.cnt
  v0 : L.vs[0]? = some (.int .i64 (s.many : Int))
  v1 : L.vs[1]? = some (.map (some L.ob))
  v2 : L.vs[2]? = some (.int .i64 (s.words : Int))
  opens : MapF rp nilD w L.ob L.n (fun r => if s.isOpen r then some (L.reg r.toNat).rb else none)
  few : L.n ≤ s.many
  regs : ∀ r ∈ s.opens, RegAt w s r (L.reg r)
  tS : L.T L.sb = some .store
  tM : L.T L.mb = some .memory
  tO : L.T L.ob = some .opens
  tP : ∀ k, pb L.vs = some k → L.T k = some .pages
  tN : ∀ k, nb L.vs = some k → L.T k = some .nodes
  tR : ∀ r ∈ s.opens, L.T (L.reg r).rb = some (.region r)
  tC : ∀ r ∈ s.opens, L.T (L.reg r).cb = some (.cells r)
  tT : ∀ r ∈ s.opens, ∀ k, (L.reg r).tv.ownBlock = some k → L.T k = some (.taken r)
  lt : ∀ k, L.T k ≠ none → k < w.heap.size
  vals : ∀ c ∈ s.cells, ∀ (j : Nat) (z : Int), c.ws[j]? = some z → L.data[c.addr + j]? = some z
  zero : ∀ j, j < L.data.length → (∀ c ∈ s.cells, ¬ (c.addr ≤ j ∧ j < c.addr + c.ws.length)) → L.data[j]? = some 0

def SA (w : World) (sp : Addr) (s : ASt) (F : Nat → Prop) : Prop := ∃ L : Lay, SAt w sp s L ∧ F = fun k => L.T k ≠ none

theorem row_frame {w w' : World} {base : Nat} {e : TypeId} {size : Nat} {v : Value} {n : Nat} {xs : List Value} (h : w.ownsRow base e size v n xs) (hb : ∀ k, v.ownBlock = some k → w'.heap[k]? = w.heap[k]?) : w'.ownsRow base e size v n xs := by
  refine ⟨h.1, ?_⟩
  rcases h.2 with h1 | ⟨g, cap, cur, rfl, hb1, hg, rest⟩
  · exact .inl h1
  · exact .inr ⟨g, cap, cur, rfl, hb1, (hb g rfl).trans hg, rest⟩

theorem Pg.frame {w w' : World} {mb : Nat} {vs : List Value} {np : Nat} {data : List Int} {b : Nat → Bool} {cnt : Nat} (h : Pg w mb vs np data b cnt) (h1 : w'.heap[mb]? = w.heap[mb]?) (h2 : ∀ j, pb vs = some j → w'.heap[j]? = w.heap[j]?) (h3 : ∀ j, nb vs = some j → w'.heap[j]? = w.heap[j]?) : Pg w' mb vs np data b cnt := by
  refine ⟨⟨h1.trans h.tr.1, ?_⟩, h.six, row_frame h.own h2, h.at5, h.pne, h.apart, h.few, h.sum, h.out⟩
  rcases h.tr.2 with h4 | ⟨g, n, cap, rs, D, N, r⟩
  · exact .inl h4
  · exact .inr ⟨g, n, cap, rs, D, ⟨h1.trans N.blk, N.at4, row_frame N.own (fun k hk => h3 k (by rw [N.nb]; simpa [Value.ownBlock] using hk)), N.len, N.ne⟩, r⟩

theorem RegAt.frame {w w' : World} {s : ASt} {r : Nat} {x : Reg} (h : RegAt w s r x) (h1 : w'.heap[x.rb]? = w.heap[x.rb]?) (h2 : w'.heap[x.cb]? = w.heap[x.cb]?) (h3 : ∀ k, x.tv.ownBlock = some k → w'.heap[k]? = w.heap[k]?) : RegAt w' s r x :=
  ⟨h1.trans h.blk, row_frame h.own h3, h.cells.frame h2, h.few, h.pages, h.disj, h.pos, h.curN, h.curS⟩

theorem SAt.frame {w w' : World} {sp : Addr} {s : ASt} {L : Lay} (h : SAt w sp s L) (hb : ∀ k, L.T k ≠ none → w'.heap[k]? = w.heap[k]?) : SAt w' sp s L := by
  have ne : ∀ {k : Nat} {r : Role}, L.T k = some r → L.T k ≠ none := fun e => by rw [e]; exact fun h => by cases h
  refine ⟨h.sp, (hb _ (ne h.tS)).trans h.store, h.pg.frame (hb _ (ne h.tM)) (fun j hj => hb j (ne (h.tP j hj))) (fun j hj => hb j (ne (h.tN j hj))), h.v0, h.v1, h.v2, h.opens.frame (hb _ (ne h.tO)), h.few,
    fun r hr => (h.regs r hr).frame (hb _ (ne (h.tR r hr))) (hb _ (ne (h.tC r hr))) (fun k hk => hb k (ne (h.tT r hr k hk))), h.tS, h.tM, h.tO, h.tP, h.tN, h.tR, h.tC, h.tT, ?_, h.vals, h.zero⟩
  intro k hk
  have h1 := h.lt k hk
  have h2 := hb k hk
  rw [Array.getElem?_eq_getElem h1] at h2
  exact (Array.getElem?_eq_some_iff.1 h2).1

theorem sa_lt {w : World} {sp : Addr} {s : ASt} {F : Nat → Prop} (h : SA w sp s F) : ∀ k, F k → k < w.heap.size := by
  obtain ⟨L, hL, rfl⟩ := h
  exact hL.lt

theorem sa_frame {w w' : World} {sp : Addr} {s : ASt} {F : Nat → Prop} (h : SA w sp s F) (hb : ∀ k, F k → w'.heap[k]? = w.heap[k]?) : SA w' sp s F := by
  obtain ⟨L, hL, rfl⟩ := h
  exact ⟨L, hL.frame hb, rfl⟩

theorem SAt.kept {S : Nat → Prop} {w w' : World} {sp : Addr} {s : ASt} {L : Lay} (h : SAt w sp s L) (k : Kept S w w') (hs : ∀ j, L.T j ≠ none → ¬ S j) : SAt w' sp s L :=
  h.frame (fun j hj => k.block j (h.lt j hj) (hs j hj))

theorem SAt.c0 {w : World} {sp : Addr} {s : ASt} {L : Lay} (h : SAt w sp s L) : w.cell? ⟨L.sb, 0, none⟩ = some (.pointer (some ⟨L.sb, 0, none⟩)) ∧ w.cell? ⟨L.sb, 1, none⟩ = some (.pointer (some ⟨L.mb, 0, none⟩)) :=
  ⟨by rw [h.store.cell]; rfl, by rw [h.store.cell]; rfl⟩

theorem infoStore : (Try.prog.info? 63).map (fun i => (i.zero, i.size, i.bytes)) = some (some (.agg #[.pointer none, .pointer none]), 2, 16) := by kernel_rfl

set_option maxRecDepth 100000 in
theorem st_isMade {w : World} {sb : Nat} (c0 : w.cell? ⟨sb, 0, none⟩ = some (.pointer (some ⟨sb, 0, none⟩))) :
    Calls Try.prog 31 #[.pointer (some ⟨sb, 0, none⟩)] w fun e w' => e = .returned (.bool true) ∧ w' = w := by
  obtain ⟨i0, hi0, _⟩ := info_parts infoStore
  have he := fun W : World => run_eql_ptr_same (P := Try.prog) W ⟨sb, 0, none⟩ Try.underlying25 hi0
  go_enter Try.func31, Try.ntmps31
  go_wp2
  go_ret
  exact ⟨rfl, rfl⟩

set_option maxRecDepth 100000 in
theorem st_region {w : World} {sp : Addr} {s : ASt} {L : Lay} (h : SAt w sp s L) (r : Int) (hr : I64 r) :
    Calls Try.prog 32 #[.pointer (some sp), .int .i64 r] w fun e w' => e = .returned (ptrOf (if s.isOpen r then some (L.reg r.toNat).rb else none)) ∧ w' = w := by
  obtain rfl := h.sp
  obtain ⟨c0, c1⟩ := h.c0
  have mk := st_isMade c0
  have m1 : w.cell? ⟨L.mb, 1, none⟩ = some (.map (some L.ob)) := by rw [h.pg.tr.1.cell, h.v1]
  have lk := h.opens.lookP hr
  have MK := Lib.hid mk
  obtain ⟨q, hq⟩ : ∃ q, q = ptrOf (if s.isOpen r then some (L.reg r.toNat).rb else none) := ⟨_, rfl⟩
  rw [← hq] at lk ⊢
  clear mk hq h
  go_enter Try.func32, Try.ntmps32
  go_wp2_with (go_at_call 31; refine MK.out.mono ?_; rintro e w2 ⟨rfl, rfl⟩)
  go_ret
  exact ⟨rfl, rfl⟩

set_option maxRecDepth 100000 in
theorem sa_words_at {w : World} {sp : Addr} {s : ASt} {L : Lay} (h : SAt w sp s L) :
    Calls Try.prog 21 #[.pointer (some sp)] w fun e w' => e = .returned (.int .i64 s.words) ∧ w' = w := by
  obtain rfl := h.sp
  obtain ⟨c0, c1⟩ := h.c0
  have mk := st_isMade c0
  have m1 : w.cell? ⟨L.mb, 2, none⟩ = some (.int .i64 s.words) := by rw [h.pg.tr.1.cell, h.v2]
  have MK := Lib.hid mk
  clear mk h
  go_enter Try.func21, Try.ntmps21
  go_wp2_with (go_at_call 31; refine MK.out.mono ?_; rintro e w2 ⟨rfl, rfl⟩)
  go_ret
  exact ⟨rfl, rfl⟩

theorem owner_split (l : List (Option Nat)) : l.countP (·.isSome) + l.countP (·.isNone) = l.length := by
  induction l with
  | nil => rfl
  | cons x l ih => cases x <;> simp <;> omega

theorem bits_count (s : ASt) : (List.range s.owner.length).countP (bits s) = s.free := by
  have e : (List.range s.owner.length).map (fun i => s.owner.getD i none) = s.owner := by
    apply List.ext_getElem
    · simp
    · intro i h1 h2
      simp [List.getElem?_eq_getElem h2]
  unfold ASt.free
  conv => rhs; rw [← e]
  rw [List.countP_map]
  apply List.countP_congr
  intro i hi
  have hl := List.mem_range.1 hi
  simp only [bits, Function.comp_apply, List.getD_eq_getElem?_getD, List.getElem?_eq_getElem hl, Option.getD_some, Option.some.injEq, decide_eq_true_eq, Option.isNone_iff_eq_none]

theorem SAt.cnt {w : World} {sp : Addr} {s : ASt} {L : Lay} (h : SAt w sp s L) : L.cnt = s.free ∧ s.owner.length - L.cnt = s.pages := by
  have h1 := h.pg.sum
  rw [bits_count] at h1
  have h2 := owner_split s.owner
  have h3 : s.free = s.owner.countP (·.isNone) := rfl
  have h4 : s.pages = s.owner.countP (·.isSome) := rfl
  exact ⟨h1, by omega⟩

set_option maxRecDepth 100000 in
theorem sa_free_at {w : World} {sp : Addr} {s : ASt} {L : Lay} (h : SAt w sp s L) :
    Calls Try.prog 25 #[.pointer (some sp)] w fun e w' => e = .returned (.int .i64 s.free) ∧ w' = w := by
  obtain rfl := h.sp
  obtain ⟨c0, c1⟩ := h.c0
  have mk := st_isMade c0
  have m1 : w.cell? ⟨L.mb, 5, none⟩ = some (.int .i64 s.free) := by rw [h.pg.tr.1.cell, h.pg.at5, h.cnt.1]
  have MK := Lib.hid mk
  clear mk h
  go_enter Try.func25, Try.ntmps25
  go_wp2_with (go_at_call 31; refine MK.out.mono ?_; rintro e w2 ⟨rfl, rfl⟩)
  go_ret
  exact ⟨rfl, rfl⟩

set_option maxRecDepth 100000 in
theorem sa_pages_at {w : World} {sp : Addr} {s : ASt} {L : Lay} (h : SAt w sp s L) :
    Calls Try.prog 23 #[.pointer (some sp)] w fun e w' => e = .returned (.int .i64 s.pages) ∧ ∃ m, w' = w.drewN m := by
  obtain rfl := h.sp
  obtain ⟨c0, c1⟩ := h.c0
  have mk := st_isMade c0
  obtain ⟨a, cap, h3, _⟩ := h.pg.at3
  have m3 : w.cell? ⟨L.mb, 3, none⟩ = some (.slice a s.owner.length cap) := by rw [h.pg.tr.1.cell, h3]
  have m5 : w.cell? ⟨L.mb, 5, none⟩ = some (.int .i64 L.cnt) := by rw [h.pg.tr.1.cell, h.pg.at5]
  have hc := h.cnt.2
  have hle := h.pg.cnt
  have hf := h.pg.few
  have MK := Lib.hid mk
  obtain ⟨n, hn⟩ : ∃ n, n = s.owner.length := ⟨_, rfl⟩
  obtain ⟨c, hcc⟩ : ∃ c, c = L.cnt := ⟨_, rfl⟩
  obtain ⟨q, hq⟩ : ∃ q, q = s.pages := ⟨_, rfl⟩
  rw [← hn, ← hcc] at hc hle
  rw [← hn] at m3 hf
  rw [← hcc] at m5
  rw [← hq] at hc ⊢
  have m6 : IntKind.i64.wrap ((n : Int) - (c : Int)) = (q : Int) := by rw [IntKind.wrap_i64]; omega
  clear mk h hn hcc hq hc h3
  go_enter Try.func23, Try.ntmps23
  go_wp2_with (go_at_call 31; refine MK.out.mono ?_; rintro e w2 ⟨rfl, rfl⟩)
  go_quiet (fail)
  go_wp2
  go_ret
  exact ⟨rfl, _, rfl⟩

end Go.Proofs.Ytfoacgdahonapaa
