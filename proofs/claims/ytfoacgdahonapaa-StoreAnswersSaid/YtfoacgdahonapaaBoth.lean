/- The program's store and the reference's, side by side: each call on both. -/
import Derived.Test.YtfoacgdahonapaaClosedStore
import Derived.Test.YtfoacgdahonapaaRefUnmade
import Derived.Test.YtfoacgdahonapaaRefNew
import Derived.Test.YtfoacgdahonapaaRefClose
import Derived.Test.YtfoacgdahonapaaRefOpen
import Derived.Test.YtfoacgdahonapaaRefCount
namespace Go.Proofs.Ytfoacgdahonapaa
open Go.RowKit Abs
set_option linter.unusedVariables false

def closeS (s : ASt) (r : Int) : ASt := if s.isOpen r then s.closed r.toNat else s
def closeE (s : ASt) (r : Int) : Int := if s.isOpen r then 0 else 70
def allocS (s : ASt) (r n : Int) : ASt := if s.isOpen r ∧ 1 ≤ n ∧ n ≤ 4097 then s.made r.toNat n.toNat else s
def allocA (s : ASt) (r n : Int) : Int := if s.isOpen r ∧ 1 ≤ n ∧ n ≤ 4097 then ((s.place r.toNat n.toNat).1 : Int) else 0
def allocE (s : ASt) (r n : Int) : Int := if s.isOpen r ∧ 1 ≤ n ∧ n ≤ 4097 then 0 else if s.isOpen r then 73 else 70

theorem good_closeS {s : ASt} (h : s.Good) (r : Int) : (closeS s r).Good := by unfold closeS; split; exact good_closed h _; exact h
theorem within_closeS {s : ASt} {n : Nat} (h : s.Within n) (r : Int) : (closeS s r).Within n := by unfold closeS; split; exact within_closed h _; exact h
theorem good_allocS {s : ASt} (h : s.Good) (r n : Int) : (allocS s r n).Good := by
  unfold allocS; split
  · rename_i hh; exact good_made h hh.1.2 (by omega)
  · exact h
theorem within_allocS {s : ASt} {m : Nat} (h : s.Within m) (r n : Int) : (allocS s r n).Within (m + 1) := by
  unfold allocS; split
  · rename_i hh; exact within_made h _ (by omega) (by omega)
  · exact h.mono (by omega)

theorem now_same {SA : World → Addr → ASt → (Nat → Prop) → Prop} (hlt : ∀ {w sp s F}, SA w sp s F → ∀ k, F k → k < w.heap.size) (hfr : ∀ {w w' sp s F}, SA w sp s F → (∀ k, F k → w'.heap[k]? = w.heap[k]?) → SA w' sp s F)
    {w w' : World} {sp : Addr} {s : ASt} {F : Nat → Prop} (h : SA w sp s F) (k : Kept Nil w w') : Now SA w F sp s w' :=
  ⟨F, hfr h (fun j hj => k.block j (hlt h j hj) (fun f => f)), fun j hj => .inl hj, k.wide⟩

theorem p_close {w : World} {sp : Addr} {s : ASt} {F : Nat → Prop} (h : SA w sp s F) (hG : s.Good) (hW : s.Within 200) (r : Int) (hr : I64 r) :
    Calls Try.prog 13 #[.pointer (some sp), .int .i64 r] w fun e w' => e = .returned (.int .i64 (closeE s r)) ∧ Now SA w F sp (closeS s r) w' := by
  unfold closeE closeS
  by_cases hO : s.isOpen r
  · rw [if_pos hO, if_pos hO]
    have := sa_closed h hG hW r.toNat hO.2
    rw [show ((r.toNat : Nat) : Int) = r by have := hO.1; omega] at this
    exact this
  · rw [if_neg hO, if_neg hO]
    exact (sa_shut h r hr hO).mono (fun e w' ⟨h1, h2⟩ => ⟨h1, now_same (SA := SA) sa_lt sa_frame h h2⟩)

theorem r_close {w : World} {sp : Addr} {s : ASt} {F : Nat → Prop} (h : RefAt w sp s F) (hG : s.Good) (hW : s.Within 200) (r : Int) (hr : I64 r) :
    Calls Try.prog 14 #[.pointer (some sp), .int .i64 r] w fun e w' => e = .returned (.int .i64 (closeE s r)) ∧ Now RefAt w F sp (closeS s r) w' := by
  unfold closeE closeS
  by_cases hO : s.isOpen r
  · rw [if_pos hO, if_pos hO]
    have := ref_closed h hG hW r.toNat hO.2
    rw [show ((r.toNat : Nat) : Int) = r by have := hO.1; omega] at this
    exact this
  · rw [if_neg hO, if_neg hO]
    exact (ref_shut h hG hW r hr hO).mono (fun e w' ⟨h1, h2⟩ => ⟨h1, by rw [h2]; exact now_same (SA := RefAt) ref_lt ref_frame h (Kept.refl _ _)⟩)

theorem p_alloc {w : World} {sp : Addr} {s : ASt} {F : Nat → Prop} (h : SA w sp s F) (hG : s.Good) (hW : s.Within 200) (r n : Int) (hr : I64 r) (hn : I64 n) :
    Calls Try.prog 15 #[.pointer (some sp), .int .i64 r, .int .i64 n] w fun e w' => e = .returned (.tuple #[.int .i64 (allocA s r n), .int .i64 (allocE s r n)]) ∧ Now SA w F sp (allocS s r n) w' := by
  unfold allocA allocE allocS
  by_cases hO : s.isOpen r ∧ 1 ≤ n ∧ n ≤ 4097
  · rw [if_pos hO, if_pos hO, if_pos hO]
    have := sa_made h hG hW r.toNat n.toNat hO.1.2 (by omega) (by omega)
    rw [show ((r.toNat : Nat) : Int) = r by have := hO.1.1; omega, show ((n.toNat : Nat) : Int) = n by omega] at this
    exact this
  · rw [if_neg hO, if_neg hO, if_neg hO]
    exact (sa_unmade h hG hW r n hr hn (by
      by_cases h1 : s.isOpen r
      · refine .inr ?_
        by_cases h2 : n < 1
        · exact .inl h2
        · exact .inr (by
            by_cases h3 : 4097 < n
            · exact h3
            · exact absurd ⟨h1, by omega, by omega⟩ hO)
      · exact .inl h1)).mono (fun e w' ⟨h1, h2⟩ => ⟨h1, now_same (SA := SA) sa_lt sa_frame h h2⟩)

theorem r_alloc {w : World} {sp : Addr} {s : ASt} {F : Nat → Prop} (h : RefAt w sp s F) (hG : s.Good) (hW : s.Within 200) (r n : Int) (hr : I64 r) (hn : I64 n) :
    Calls Try.prog 16 #[.pointer (some sp), .int .i64 r, .int .i64 n] w fun e w' => e = .returned (.tuple #[.int .i64 (allocA s r n), .int .i64 (allocE s r n)]) ∧ Now RefAt w F sp (allocS s r n) w' := by
  unfold allocA allocE allocS
  by_cases hO : s.isOpen r ∧ 1 ≤ n ∧ n ≤ 4097
  · rw [if_pos hO, if_pos hO, if_pos hO]
    have := ref_made h hG hW r.toNat n.toNat hO.1.2 (by omega) (by omega)
    rw [show ((r.toNat : Nat) : Int) = r by have := hO.1.1; omega, show ((n.toNat : Nat) : Int) = n by omega] at this
    exact this
  · rw [if_neg hO, if_neg hO, if_neg hO]
    exact (ref_unmade h hG hW r n hr hn (by
      by_cases h1 : s.isOpen r
      · refine .inr ?_
        by_cases h2 : n < 1
        · exact .inl h2
        · exact .inr (by
            by_cases h3 : 4097 < n
            · exact h3
            · exact absurd ⟨h1, by omega, by omega⟩ hO)
      · exact .inl h1)).mono (fun e w' ⟨h1, h2⟩ => ⟨h1, by rw [h2]; exact now_same (SA := RefAt) ref_lt ref_frame h (Kept.refl _ _)⟩)

/-- The two stores in memory, in one round: the program's is s, the reference's t; b6 is the call's own block. -/
structure Two (w W : World) (sp rp : Addr) (b6 : Nat) (xs : List Value) (s t : ASt) (F G : Nat → Prop) : Prop where
  sa : SA W sp s F
  ref : RefAt W rp t G
  apart : ∀ j, F j → ¬ G j
  bF : ∀ j, F j → w.heap.size ≤ j
  bG : ∀ j, G j → w.heap.size ≤ j
  kept : Kept Nil w W
  op : Blk W b6 xs 34
  nF : ¬ F b6
  nG : ¬ G b6

theorem Two.prog {w W W' : World} {sp rp : Addr} {b6 : Nat} {xs : List Value} {s s' t : ASt} {F G : Nat → Prop} (h : Two w W sp rp b6 xs s t F G) (n : Now SA W F sp s' W') : ∃ F', Two w W' sp rp b6 xs s' t F' G := by
  obtain ⟨F', h1, h2, k⟩ := n
  refine ⟨F', h1, ref_frame h.ref (fun j hj => k.block j (ref_lt h.ref j hj) (fun f => h.apart j f hj)), fun j hj hg => ?_, fun j hj => ?_, h.bG, h.kept.next k (fun j hj => .inr (h.bF j hj)), Blk.keep k h.op h.nF, fun hf => ?_, h.nG⟩
  · rcases h2 j hj with h3 | h3
    · exact h.apart j h3 hg
    · have := ref_lt h.ref j hg; omega
  · rcases h2 j hj with h3 | h3
    · exact h.bF j h3
    · have := h.kept.size; omega
  · rcases h2 _ hf with h3 | h3
    · exact h.nF h3
    · have := h.op.lt; omega

theorem Two.refn {w W W' : World} {sp rp : Addr} {b6 : Nat} {xs : List Value} {s t t' : ASt} {F G : Nat → Prop} (h : Two w W sp rp b6 xs s t F G) (n : Now RefAt W G rp t' W') : ∃ G', Two w W' sp rp b6 xs s t' F G' := by
  obtain ⟨G', h1, h2, k⟩ := n
  refine ⟨G', sa_frame h.sa (fun j hj => k.block j (sa_lt h.sa j hj) (fun f => h.apart j hj f)), h1, fun j hj hg => ?_, h.bF, fun j hj => ?_, h.kept.next k (fun j hj => .inr (h.bG j hj)), Blk.keep k h.op h.nG, h.nF, fun hf => ?_⟩
  · rcases h2 j hg with h3 | h3
    · exact h.apart j hj h3
    · have := sa_lt h.sa j hj; omega
  · rcases h2 j hj with h3 | h3
    · exact h.bG j h3
    · have := h.kept.size; omega
  · rcases h2 _ hf with h3 | h3
    · exact h.nG h3
    · have := h.op.lt; omega

theorem Two.quiet {w W W' : World} {sp rp : Addr} {b6 : Nat} {xs : List Value} {s t : ASt} {F G : Nat → Prop} (h : Two w W sp rp b6 xs s t F G) (k : Kept Nil W W') : Two w W' sp rp b6 xs s t F G :=
  ⟨sa_frame h.sa (fun j hj => k.block j (sa_lt h.sa j hj) (fun f => f)), ref_frame h.ref (fun j hj => k.block j (ref_lt h.ref j hj) (fun f => f)), h.apart, h.bF, h.bG, h.kept.trans k, Blk.keep k h.op (fun f => f), h.nF, h.nG⟩

theorem Two.drew {w W : World} {sp rp : Addr} {b6 : Nat} {xs : List Value} {s t : ASt} {F G : Nat → Prop} (h : Two w W sp rp b6 xs s t F G) : Two w W.drew sp rp b6 xs s t F G := h.quiet (Kept.drew (Kept.refl _ _))

theorem Two.drewn {w W V : World} {sp rp : Addr} {b6 : Nat} {xs : List Value} {s t : ASt} {F G : Nat → Prop} {m : Nat} (h : Two w W sp rp b6 xs s t F G) (e : V = W.drewN m) : Two w V sp rp b6 xs s t F G := by
  rw [e]; exact h.quiet (Kept.drewN (Kept.refl _ _) _)

/-- The call's own cells. -/
theorem Two.cells {w W : World} {sp rp : Addr} {b6 : Nat} {d r n a f v : Int} {s t : ASt} {F G : Nat → Prop} (h : Two w W sp rp b6 [.int .u8 d, .int .i64 r, .int .i64 n, .int .i64 a, .int .i64 f, .int .i64 v] s t F G) :
    W.cell? ⟨b6, 0, none⟩ = some (.int .u8 d) ∧ W.cell? ⟨b6, 1, none⟩ = some (.int .i64 r) ∧ W.cell? ⟨b6, 2, none⟩ = some (.int .i64 n) ∧ W.cell? ⟨b6, 3, none⟩ = some (.int .i64 a) ∧ W.cell? ⟨b6, 4, none⟩ = some (.int .i64 f) ∧ W.cell? ⟨b6, 5, none⟩ = some (.int .i64 v) :=
  ⟨by rw [h.op.cell]; rfl, by rw [h.op.cell]; rfl, by rw [h.op.cell]; rfl, by rw [h.op.cell]; rfl, by rw [h.op.cell]; rfl, by rw [h.op.cell]; rfl⟩

/-- At the head of a round: k calls are done; both stores are the same. -/
def AtBoth (w : World) (sp rp : Addr) (k : Nat) (W : World) : Prop :=
  ∃ s F G, SA W sp s F ∧ RefAt W rp s G ∧ (∀ j, F j → ¬ G j) ∧ (∀ j, F j → w.heap.size ≤ j) ∧ (∀ j, G j → w.heap.size ≤ j) ∧ Kept Nil w W ∧ s.Good ∧ s.Within k

theorem AtBoth.start {w W : World} {sp rp : Addr} {k : Nat} (h : AtBoth w sp rp k W) (d r n a f v : Int) :
    ∃ s F G, Two w (W.alloc (.cells #[.int .u8 d, .int .i64 r, .int .i64 n, .int .i64 a, .int .i64 f, .int .i64 v] 34)) sp rp W.heap.size [.int .u8 d, .int .i64 r, .int .i64 n, .int .i64 a, .int .i64 f, .int .i64 v] s s F G ∧ s.Good ∧ s.Within k := by
  obtain ⟨s, F, G, h1, h2, h3, h4, h5, h6, h7, h8⟩ := h
  have ka : Kept Nil W (W.alloc (.cells #[.int .u8 d, .int .i64 r, .int .i64 n, .int .i64 a, .int .i64 f, .int .i64 v] 34)) := (Kept.refl _ _).alloc _
  exact ⟨s, F, G, ⟨sa_frame h1 (fun j hj => ka.block j (sa_lt h1 j hj) (fun f => f)), ref_frame h2 (fun j hj => ka.block j (ref_lt h2 j hj) (fun f => f)), h3, h4, h5, h6.trans ka, Blk.new rfl, fun hf => absurd (sa_lt h1 _ hf) (Nat.lt_irrefl _), fun hf => absurd (ref_lt h2 _ hf) (Nat.lt_irrefl _)⟩, h7, h8⟩

theorem Two.both {w W : World} {sp rp : Addr} {b6 : Nat} {xs : List Value} {s : ASt} {F G : Nat → Prop} (h : Two w W sp rp b6 xs s s F G) {k : Nat} (hG : s.Good) (hW : s.Within k) : AtBoth w sp rp k W :=
  ⟨s, F, G, h.sa, h.ref, h.apart, h.bF, h.bG, h.kept, hG, hW⟩

end Go.Proofs.Ytfoacgdahonapaa
