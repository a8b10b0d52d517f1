/- 'New' and 'Open' of the program. -/
import Derived.Test.YtfoacgdahonapaaStore
namespace Go.Proofs.Ytfoacgdahonapaa
open Go.RowKit Abs Tree
set_option linter.unusedVariables false

/-- The roles of a new store's blocks. -/
def newT (h : Nat) : Nat → Option Role := fun k => if k = h then some .opens else if k = h + 1 then some .memory else if k = h + 1 + 1 then some .store else none

theorem Pg.setv {w : World} {mb : Nat} {vs : List Value} {np : Nat} {data : List Int} {b : Nat → Bool} {cnt : Nat} (h : Pg w mb vs np data b cnt) (i : Nat) (hi : i < 3) (u : Value) : Pg (w.setCell ⟨mb, i, none⟩ u) mb (vs.set i u) np data b cnt := by
  have e3 : (vs.set i u).getD 3 undef = vs.getD 3 undef := by rw [List.getD_eq_getElem?_getD, List.getElem?_set, if_neg (by omega), ← List.getD_eq_getElem?_getD]
  have e4 : (vs.set i u).getD 4 undef = vs.getD 4 undef := by rw [List.getD_eq_getElem?_getD, List.getElem?_set, if_neg (by omega), ← List.getD_eq_getElem?_getD]
  refine ⟨h.tr.setv i (by omega) u, by rw [List.length_set]; exact h.six, ?_, by rw [List.getElem?_set, if_neg (by omega)]; exact h.at5, ?_, ?_, h.few, h.sum, h.out⟩
  · rw [e3]
    exact (Kept.setIn (S := (· = mb)) (Kept.refl _ w) mb i rfl u).row h.own (fun j hj e => h.pne (by unfold pb; rw [hj, e]))
  · unfold pb; rw [e3]; exact h.pne
  · intro j hj
    unfold pb at hj; rw [e3] at hj
    unfold nb; rw [e4]; exact h.apart j hj

theorem pb_set {vs : List Value} {i : Nat} (hi : i ≠ 3) (u : Value) : pb (vs.set i u) = pb vs := by
  unfold pb; rw [List.getD_eq_getElem?_getD, List.getElem?_set, if_neg hi, ← List.getD_eq_getElem?_getD]
theorem nb_set {vs : List Value} {i : Nat} (hi : i ≠ 4) (u : Value) : nb (vs.set i u) = nb vs := by
  unfold nb; rw [List.getD_eq_getElem?_getD, List.getElem?_set, if_neg hi, ← List.getD_eq_getElem?_getD]

theorem sat_new (w : World) :
    SAt (((w.alloc (.map #[] 0)).alloc (.cells #[.int .i64 0, .map (some w.heap.size), .int .i64 0, .slice none 0 0, .slice none 0 0, .int .i64 0] 61)).alloc
        (.cells #[.pointer (some ⟨w.heap.size + 1 + 1, 0, none⟩), .pointer (some ⟨w.heap.size + 1, 0, none⟩)] 63)) ⟨w.heap.size + 1 + 1, 0, none⟩ ASt.empty
      ⟨w.heap.size + 1 + 1, w.heap.size + 1, w.heap.size, [.int .i64 0, .map (some w.heap.size), .int .i64 0, .slice none 0 0, .slice none 0 0, .int .i64 0], [], 0, 0, fun _ => ⟨0, .slice none 0 0, 0, [], 0, 0, 0⟩, newT w.heap.size⟩ := by
  have b1 : Blk ((w.alloc (.map #[] 0)).alloc (.cells #[.int .i64 0, .map (some w.heap.size), .int .i64 0, .slice none 0 0, .slice none 0 0, .int .i64 0] 61)) (w.heap.size + 1) [.int .i64 0, .map (some w.heap.size), .int .i64 0, .slice none 0 0, .slice none 0 0, .int .i64 0] 61 := Blk.new (by simp)
  have b2 := b1.alloc (.cells #[.pointer (some ⟨w.heap.size + 1 + 1, 0, none⟩), .pointer (some ⟨w.heap.size + 1, 0, none⟩)] 63)
  have m0 := MapF.made (R := rp) (zd := nilD) w
  have m1 := (m0.frame (Below.heap_alloc _ (.cells #[.int .i64 0, .map (some w.heap.size), .int .i64 0, .slice none 0 0, .slice none 0 0, .int .i64 0] 61) _ (by simp)))
  have m2 := (m1.frame (Below.heap_alloc _ (.cells #[.pointer (some ⟨w.heap.size + 1 + 1, 0, none⟩), .pointer (some ⟨w.heap.size + 1, 0, none⟩)] 63) _ (by simp; omega)))
  refine ⟨rfl, Blk.new (by simp), ⟨⟨b2, .inl ⟨rfl, fun i => by simp [bits, ASt.empty]⟩⟩, rfl, World.ownsRow_nil _ _ _ _, rfl, by simp [pb, Value.ownBlock], by simp [pb, Value.ownBlock], by simp [ASt.empty], by simp [ASt.empty], fun i _ => by simp [bits, ASt.empty]⟩,
    rfl, rfl, rfl, ?_, by simp, fun r hr => by simp [ASt.empty] at hr, ?_, ?_, ?_, ?_, ?_, fun r hr => by simp [ASt.empty] at hr, fun r hr => by simp [ASt.empty] at hr, fun r hr => by simp [ASt.empty] at hr, ?_, fun c hc => by simp [ASt.empty] at hc, fun j hj => by simp at hj⟩
  · have e : (fun r : Int => if ASt.empty.isOpen r then some 0 else none) = (fun _ : Int => (none : Option Nat)) := by
      funext r; rw [if_neg]; simp [ASt.isOpen, ASt.empty]
    simp only at e ⊢
    rw [e]
    exact m2
  · simp [newT]; omega
  · simp [newT]
  · simp [newT]
  · intro k hk; simp [pb, Value.ownBlock] at hk
  · intro k hk; simp [nb, Value.ownBlock] at hk
  · intro k hk
    simp only [newT] at hk
    split at hk
    · simp; omega
    · split at hk
      · simp; omega
      · split at hk
        · simp; omega
        · exact absurd rfl hk

set_option maxRecDepth 100000 in
set_option maxHeartbeats 1600000 in
theorem sa_new (w : World) : Calls Try.prog 9 #[] w fun e w' => ∃ sp, e = .returned (.pointer (some sp)) ∧ Now SA w Nil sp ASt.empty w' := by
  have hmm := @run_makeMap Try.prog
  go_enter Try.func9, Try.ntmps9
  go_wp2
  go_ret
  refine ⟨⟨w.heap.size + 1 + 1, 0, none⟩, rfl, _, ⟨_, sat_new w, rfl⟩, fun k hk => .inr ?_, (((Kept.refl _ _).alloc _).alloc _).alloc _⟩
  simp only [newT] at hk
  split at hk
  · omega
  · split at hk
    · omega
    · split at hk
      · omega
      · exact absurd rfl hk

/-- Who is open behind an opening. -/
theorem isOpen_opened (s : ASt) (r : Int) : s.opened.isOpen r ↔ s.isOpen r ∨ r = s.many := by
  unfold ASt.isOpen ASt.opened
  simp only [List.mem_append, List.mem_singleton]
  constructor
  · rintro ⟨h0, h1 | h1⟩
    · exact .inl ⟨h0, h1⟩
    · exact .inr (by omega)
  · rintro (⟨h0, h1⟩ | h1)
    · exact ⟨h0, .inl h1⟩
    · exact ⟨by omega, .inr (by omega)⟩

/-- Roles tell blocks apart. -/
theorem Lay.ne {L : Lay} {a b : Nat} {x y : Role} (ha : L.T a = some x) (hb : L.T b = some y) (h : x ≠ y) : a ≠ b := fun e => by
  rw [e, hb] at ha
  exact h (Option.some.inj ha).symm

/-- The layout behind an opening. -/
def Lay.opened (L : Lay) (many h : Nat) : Lay :=
  ⟨L.sb, L.mb, L.ob, L.vs.set 0 (.int .i64 ((many : Int) + 1)), L.data, L.cnt, L.n + 1, fun r => if r = many then ⟨h + 1, .slice none 0 0, h, [], 0, 0, 0⟩ else L.reg r,
    fun k => if k = h + 1 then some (.region many) else if k = h then some (.cells many) else L.T k⟩

theorem sat_opened {w w3 : World} {sp : Addr} {s : ASt} {L : Lay} (hL : SAt w sp s L) (hG : s.Good)
    (gr : (((w.setCell ⟨L.mb, 0, none⟩ (.int .i64 ((s.many : Int) + 1))).alloc (.map #[] 0)).alloc (.cells #[.slice none 0 0, .map (some w.heap.size), .int .i64 0, .int .i64 0, .int .i64 0] 68)).grownBy w3 (some L.ob))
    (hm : MapF rp nilD w3 L.ob (L.n + 1) (fun j => if j = (s.many : Int) then some (w.heap.size + 1) else if s.isOpen j then some (L.reg j.toNat).rb else none)) :
    Now SA w (fun k => L.T k ≠ none) sp s.opened w3 := by
  have hnew : s.many ∉ s.opens := fun h => Nat.lt_irrefl _ (hG.lt _ h)
  obtain ⟨h, hh⟩ : ∃ h, h = w.heap.size := ⟨_, rfl⟩
  have fresh : ∀ k, h ≤ k → L.T k = none := fun k hk => by
    cases ht : L.T k with
    | none => rfl
    | some x => have := hL.lt k (by rw [ht]; exact fun h => by cases h); omega
  have T1 : ∀ k x, L.T k = some x → (L.opened s.many h).T k = some x := by
    intro k x hk
    have h1 : k < h := by have := hL.lt k (by rw [hk]; exact fun h => by cases h); omega
    show (if k = h + 1 then _ else if k = h then _ else L.T k) = _
    rw [if_neg (by omega), if_neg (by omega)]; exact hk
  have sizes : (((w.setCell ⟨L.mb, 0, none⟩ (.int .i64 ((s.many : Int) + 1))).alloc (.map #[] 0))).heap.size = h + 1 := by simp [World.setCell, hh]
  have sz0 : (w.setCell ⟨L.mb, 0, none⟩ (.int .i64 ((s.many : Int) + 1))).heap.size = h := by simp [World.setCell, hh]
  have k1 : Kept (· = L.mb) w (((w.setCell ⟨L.mb, 0, none⟩ (.int .i64 ((s.many : Int) + 1))).alloc (.map #[] 0)).alloc (.cells #[.slice none 0 0, .map (some w.heap.size), .int .i64 0, .int .i64 0, .int .i64 0] 68)) :=
    ((Kept.setIn (S := (· = L.mb)) (Kept.refl _ w) _ _ rfl _).alloc _).alloc _
  have kg := Kept.grown (Kept.refl (fun j => j = L.ob) _) gr (fun j hj => .inl (by simpa using hj.symm))
  have k3 : Kept (fun j => j = L.mb ∨ j = L.ob) w w3 := (k1.mono (fun j hj => .inl hj)).trans (kg.mono (fun j hj => .inr hj))
  have neOM := Lay.ne hL.tO hL.tM (by simp)
  have neSM := Lay.ne hL.tS hL.tM (by simp)
  have neSO := Lay.ne hL.tS hL.tO (by simp)
  have kA : Kept Nil (w.setCell ⟨L.mb, 0, none⟩ (.int .i64 ((s.many : Int) + 1))) (((w.setCell ⟨L.mb, 0, none⟩ (.int .i64 ((s.many : Int) + 1))).alloc (.map #[] 0)).alloc (.cells #[.slice none 0 0, .map (some w.heap.size), .int .i64 0, .int .i64 0, .int .i64 0] 68)) := ((Kept.refl _ _).alloc _).alloc _
  have pg0 := hL.pg.setv 0 (by omega) (.int .i64 ((s.many : Int) + 1))
  have pg3 : Pg w3 L.mb (L.vs.set 0 (.int .i64 ((s.many : Int) + 1))) s.owner.length L.data (bits s) L.cnt :=
    (pg0.kept kA (fun h => h) (fun _ _ h => h) (fun _ _ h => h)).kept kg (Ne.symm neOM) (fun j hj => by rw [pb_set (by omega)] at hj; exact Lay.ne (hL.tP j hj) hL.tO (by simp)) (fun j hj => by rw [nb_set (by omega)] at hj; exact Lay.ne (hL.tN j hj) hL.tO (by simp))
  have six := hL.pg.six
  have m0 : MapF (plainElem Try.prog 3) zeroD w3 h 0 (fun _ => none) := by
    have h1 := MapF.made (R := plainElem Try.prog 3) (zd := zeroD) (w.setCell ⟨L.mb, 0, none⟩ (.int .i64 ((s.many : Int) + 1)))
    rw [sz0] at h1
    have h2 := h1.frame (Below.heap_alloc _ (.cells #[.slice none 0 0, .map (some w.heap.size), .int .i64 0, .int .i64 0, .int .i64 0] 68) h (by rw [sizes]; omega))
    refine h2.frame (kg.block h (by simp [World.setCell]; omega) (fun e => ?_))
    have := hL.lt L.ob (by rw [hL.tO]; exact fun h => by cases h); omega
  have bR : Blk w3 (h + 1) [.slice none 0 0, .map (some h), .int .i64 0, .int .i64 0, .int .i64 0] 68 := by
    rw [hh] at sizes ⊢
    exact Blk.keep kg (Blk.new sizes.symm) (fun e => by have := hL.lt L.ob (by rw [hL.tO]; exact fun h => by cases h); omega)
  have k4 : Kept (fun k => L.T k ≠ none) w w3 := k3.mono (fun j hj => by
    rcases hj with h1 | h1
    · rw [h1, hL.tM]; exact fun h => by cases h
    · rw [h1, hL.tO]; exact fun h => by cases h)
  refine ⟨fun k => (L.opened s.many h).T k ≠ none, ⟨L.opened s.many h, ?_, rfl⟩, ?_, k4⟩
  · refine ⟨hL.sp, Blk.keep k3 hL.store (fun e => e.elim neSM neSO), pg3, ?_, ?_, ?_, ?_, ?_, ?_, T1 _ _ hL.tS, T1 _ _ hL.tM, T1 _ _ hL.tO, fun k hk => ?_, fun k hk => ?_, fun r hr => ?_, fun r hr => ?_, fun r hr k hk => ?_, fun k hk => ?_, hL.vals, hL.zero⟩
    · show (L.vs.set 0 _)[0]? = _
      rw [List.getElem?_set, if_pos rfl, if_pos (by omega)]
      show some (Value.int .i64 ((s.many : Int) + 1)) = some (.int .i64 ((s.many + 1 : Nat) : Int))
      rw [Int.natCast_add]; rfl
    · show (L.vs.set 0 _)[1]? = _
      rw [List.getElem?_set, if_neg (by omega)]; exact hL.v1
    · show (L.vs.set 0 _)[2]? = _
      rw [List.getElem?_set, if_neg (by omega)]; exact hL.v2
    · have e : (fun r : Int => if s.opened.isOpen r then some ((L.opened s.many h).reg r.toNat).rb else none) = (fun j : Int => if j = (s.many : Int) then some (w.heap.size + 1) else if s.isOpen j then some (L.reg j.toNat).rb else none) := by
        funext r
        by_cases h1 : r = (s.many : Int)
        · rw [if_pos h1, if_pos ((isOpen_opened s r).2 (.inr h1))]
          show some (Reg.rb (if r.toNat = s.many then _ else _)) = _
          rw [if_pos (by omega), hh]
        · rw [if_neg h1]
          by_cases h2 : s.isOpen r
          · rw [if_pos h2, if_pos ((isOpen_opened s r).2 (.inl h2))]
            show some (Reg.rb (if r.toNat = s.many then _ else _)) = _
            rw [if_neg (by have := h2.1; omega)]
          · rw [if_neg h2, if_neg (fun h3 => ((isOpen_opened s r).1 h3).elim h2 h1)]
      show MapF rp nilD w3 L.ob (L.n + 1) _
      rw [e]; exact hm
    · show L.n + 1 ≤ s.many + 1
      have := hL.few; omega
    · intro r hr
      by_cases h1 : r = s.many
      · subst h1
        have e : (L.opened s.many h).reg s.many = ⟨h + 1, .slice none 0 0, h, [], 0, 0, 0⟩ := if_pos rfl
        rw [e]
        have hw : wordsIn s.opened s.many = 0 := by
          have : s.opened.cells.filter (·.reg = s.many) = [] := by
            rw [List.filter_eq_nil_iff]
            intro c hc
            have := hG.reg c hc
            simp only [decide_eq_true_eq]
            intro e; rw [e] at this; exact hnew this
          unfold wordsIn; rw [this]; rfl
        refine ⟨?_, World.ownsRow_nil _ _ _ _, ?_, Nat.zero_le _, ?_, List.Pairwise.nil, fun t ht => by simp at ht, fun _ => rfl, ?_⟩
        · rw [hw]; exact bR
        · have e2 : (fun a : Int => (s.opened.cells.find? (·.is s.many a)).map (·.ws.length)) = (fun _ : Int => (none : Option Nat)) := by
            funext a
            rw [List.find?_eq_none.2]; · rfl
            intro c hc
            have := hG.reg c hc
            simp only [ACell.is, Bool.and_eq_true, beq_iff_eq, not_and]
            intro e; exact absurd (show c.reg = s.many by omega) (fun e => hnew (e ▸ this))
          rw [e2]; exact m0
        · intro p
          constructor
          · intro hp; exact absurd (hG.owned p _ hp) hnew
          · rintro ⟨t, ht, _⟩; simp at ht
        · intro p f hp
          simp [ASt.opened] at hp
      · have hr2 : r ∈ s.opens := by
          simp only [ASt.opened, List.mem_append, List.mem_singleton] at hr
          exact hr.resolve_right h1
        have e : (L.opened s.many h).reg r = L.reg r := if_neg h1
        rw [e]
        have x := hL.regs r hr2
        have xx := x.frame (w' := w3) (k3.block _ (hL.lt _ (by rw [hL.tR r hr2]; exact fun h => by cases h)) (fun e => e.elim (Lay.ne (hL.tR r hr2) hL.tM (by simp)) (Lay.ne (hL.tR r hr2) hL.tO (by simp))))
          (k3.block _ (hL.lt _ (by rw [hL.tC r hr2]; exact fun h => by cases h)) (fun e => e.elim (Lay.ne (hL.tC r hr2) hL.tM (by simp)) (Lay.ne (hL.tC r hr2) hL.tO (by simp))))
          (fun k hk => k3.block _ (hL.lt _ (by rw [hL.tT r hr2 k hk]; exact fun h => by cases h)) (fun e => e.elim (Lay.ne (hL.tT r hr2 k hk) hL.tM (by simp)) (Lay.ne (hL.tT r hr2 k hk) hL.tO (by simp))))
        refine ⟨xx.blk, xx.own, xx.cells, xx.few, xx.pages, xx.disj, xx.pos, fun hc => xx.curN ?_, fun p f hc => xx.curS p f ?_⟩
        · simpa [ASt.opened, h1] using hc
        · simpa [ASt.opened, h1] using hc
    · have : pb (L.vs.set 0 (.int .i64 ((s.many : Int) + 1))) = some k := hk
      rw [pb_set (by omega)] at this
      exact T1 _ _ (hL.tP k this)
    · have : nb (L.vs.set 0 (.int .i64 ((s.many : Int) + 1))) = some k := hk
      rw [nb_set (by omega)] at this
      exact T1 _ _ (hL.tN k this)
    · by_cases h1 : r = s.many
      · subst h1
        have e : (L.opened s.many h).reg s.many = ⟨h + 1, .slice none 0 0, h, [], 0, 0, 0⟩ := if_pos rfl
        rw [e]; exact if_pos rfl
      · have hr2 : r ∈ s.opens := by
          simp only [ASt.opened, List.mem_append, List.mem_singleton] at hr
          exact hr.resolve_right h1
        have e : (L.opened s.many h).reg r = L.reg r := if_neg h1
        rw [e]; exact T1 _ _ (hL.tR r hr2)
    · by_cases h1 : r = s.many
      · subst h1
        have e : (L.opened s.many h).reg s.many = ⟨h + 1, .slice none 0 0, h, [], 0, 0, 0⟩ := if_pos rfl
        rw [e]
        show (if h = h + 1 then _ else if h = h then _ else L.T h) = _
        rw [if_neg (by omega), if_pos rfl]
      · have hr2 : r ∈ s.opens := by
          simp only [ASt.opened, List.mem_append, List.mem_singleton] at hr
          exact hr.resolve_right h1
        have e : (L.opened s.many h).reg r = L.reg r := if_neg h1
        rw [e]; exact T1 _ _ (hL.tC r hr2)
    · by_cases h1 : r = s.many
      · subst h1
        have e : (L.opened s.many h).reg s.many = ⟨h + 1, .slice none 0 0, h, [], 0, 0, 0⟩ := if_pos rfl
        rw [e] at hk
        simp [Value.ownBlock] at hk
      · have hr2 : r ∈ s.opens := by
          simp only [ASt.opened, List.mem_append, List.mem_singleton] at hr
          exact hr.resolve_right h1
        have e : (L.opened s.many h).reg r = L.reg r := if_neg h1
        rw [e] at hk; exact T1 _ _ (hL.tT r hr2 k hk)
    · have hs3 : h + 2 ≤ w3.heap.size := by have := kg.size; simp [World.setCell] at this; omega
      have hk2 : (if k = h + 1 then some (Role.region s.many) else if k = h then some (.cells s.many) else L.T k) ≠ none := hk
      split at hk2
      · omega
      · split at hk2
        · omega
        · have := hL.lt k hk2; omega
  · intro k hk
    have hk2 : (if k = h + 1 then some (Role.region s.many) else if k = h then some (.cells s.many) else L.T k) ≠ none := hk
    split at hk2
    · exact .inr (by omega)
    · split at hk2
      · exact .inr (by omega)
      · exact .inl hk2

set_option maxRecDepth 100000 in
set_option maxHeartbeats 1600000 in
theorem sa_opened {w : World} {sp : Addr} {s : ASt} {F : Nat → Prop} (h : SA w sp s F) (hG : s.Good) (hW : s.Within 200) :
    Calls Try.prog 11 #[.pointer (some sp)] w fun e w' => e = .returned (.int .i64 s.many) ∧ Now SA w F sp s.opened w' := by
  obtain ⟨L, hL, rfl⟩ := h
  obtain rfl := hL.sp
  obtain ⟨c0, c1⟩ := hL.c0
  have mk := fun (W : World) (hW : W.cell? ⟨L.sb, 0, none⟩ = some (.pointer (some ⟨L.sb, 0, none⟩))) => st_isMade hW
  have hm := hW.many
  have m0 : w.cell? ⟨L.mb, 0, none⟩ = some (.int .i64 (s.many : Int)) := by rw [hL.pg.tr.1.cell, hL.v0]
  have m1 : w.cell? ⟨L.mb, 1, none⟩ = some (.map (some L.ob)) := by rw [hL.pg.tr.1.cell, hL.v1]
  have f0 := hL.pg.tr.1.frozen 0
  have lm := hL.pg.tr.1.lt
  have ls := hL.store.lt
  have MK := Lib.hid mk
  have HL := Lib.hid hL
  have HG := Lib.hid hG
  have hmm := @run_makeMap Try.prog
  have hsm : L.sb ≠ L.mb := Lay.ne hL.tS hL.tM (by simp)
  have hom : L.ob ≠ L.mb := Lay.ne hL.tO hL.tM (by simp)
  have lo := hL.opens.lt
  have ho1 : MapF rp nilD (w.setCell ⟨L.mb, 0, none⟩ (.int .i64 ((s.many : Int) + 1))) L.ob L.n (fun r => if s.isOpen r then some (L.reg r.toNat).rb else none) :=
    hL.opens.frame (Below.heap_setCell _ _ _ _ hom)
  have few := hL.few
  clear mk hL hG hW
  go_enter Try.func11, Try.ntmps11
  go_wp2_with (first | (go_at_call 31; refine (MK.out _ c0).mono ?_; rintro e w2 ⟨rfl, rfl⟩) | (at_mapUpdate; go_loud (refine wpList_putP _ rfl _ _ _ rfl (ho1.frame ((Below.heap_alloc _ _ _ (by simp [World.setCell]; omega)).trans (Below.heap_alloc _ _ _ (by simp [World.setCell]; omega)))) (by omega) (by unfold I64; omega) rfl rfl rfl ?_)))
  intro w3 hm3 gr3
  go_wp2
  go_ret
  exact ⟨rfl, sat_opened HL.out HG.out gr3 hm3⟩

end Go.Proofs.Ytfoacgdahonapaa
