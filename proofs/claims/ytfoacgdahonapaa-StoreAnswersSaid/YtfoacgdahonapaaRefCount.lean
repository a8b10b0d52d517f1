/- The reference's counts: Words, Pages, Free. -/
import Derived.Test.YtfoacgdahonapaaRef
namespace Go.Proofs.Ytfoacgdahonapaa
open Go.RowKit Abs
set_option linter.unusedVariables false

/-- The words of those entries that are of an open region. -/
def liveWords (s : ASt) (l : List Ent) : Nat := ((l.filter (fun x => decide (x.1 ∈ s.opens))).map (·.2.2)).sum

theorem liveWords_all {s : ASt} {all : List Ent} {data : List Int} (h : RefOk s all data) : liveWords s all = s.words := by
  unfold liveWords ASt.words
  rw [h.live, List.map_map]; rfl

theorem liveWords_succ {s : ASt} {all : List Ent} {k : Nat} {x : Ent} (hx : all[k]? = some x) : liveWords s (all.take (k + 1)) = liveWords s (all.take k) + if x.1 ∈ s.opens then x.2.2 else 0 := by
  obtain ⟨hk, rfl⟩ := List.getElem?_eq_some_iff.1 hx
  unfold liveWords
  rw [List.take_succ_eq_append_getElem hk, List.filter_append, List.map_append, List.sum_append]
  by_cases h : (all[k]).1 ∈ s.opens <;> simp [h]

theorem liveWords_le {s : ASt} {all : List Ent} (h : ∀ x ∈ all, x.2.2 ≤ 4097) (k : Nat) : liveWords s (all.take k) ≤ 4097 * k := by
  induction k with
  | zero => simp [liveWords]
  | succ k ih =>
    by_cases hk : k < all.length
    · rw [liveWords_succ (List.getElem?_eq_getElem hk)]
      have := h _ (List.getElem_mem hk)
      split <;> omega
    · have : all.take (k + 1) = all.take k := by rw [List.take_of_length_le (by omega), List.take_of_length_le (by omega)]
      rw [this]; omega

set_option maxRecDepth 100000 in
set_option maxHeartbeats 800000 in
theorem ref_words {w : World} {sp : Addr} {s : ASt} {F : Nat → Prop} (h : RefAt w sp s F) (hG : s.Good) (hW : s.Within 200) :
    Calls Try.prog 22 #[.pointer (some sp)] w fun e w' => e = .returned (.int .i64 s.words) ∧ ∃ m, w' = w.drewN m := by
  obtain ⟨sb, vs, all, data, rfl, rfl, hl, hR, hO⟩ := h
  obtain ⟨a0, c0, _, q0, o0⟩ := hR.at 0 (e := 4) (xs := openedL s) rfl
  obtain ⟨a4, c4, _, q4, o4⟩ := hR.at 4 (e := 3) (xs := all.map fun x => .int .i64 (x.2.1 : Int)) rfl
  obtain ⟨a5, c5, _, q5, o5⟩ := hR.at 5 (e := 3) (xs := all.map fun x => .int .i64 (x.2.2 : Int)) rfl
  obtain ⟨a6, c6, _, q6, o6⟩ := hR.at 6 (e := 3) (xs := all.map fun x => .int .i64 (x.1 : Int)) rfl
  have hlen : (openedL s).length = s.many := by simp [openedL]
  rw [hlen] at q0 o0
  rw [List.length_map] at q4 q5 q6 o4 o5 o6
  have lb := hR.blk.lt
  have hev : all.length ≤ 200 := by rw [hO.ever]; exact hW.ever
  have hmy := hW.many
  rw [← liveWords_all hO]
  obtain ⟨n, hn⟩ : ∃ n, n = all.length := ⟨_, rfl⟩
  rw [← hn] at q4 q5 q6 o4 o5 o6 hev
  have HN := Lib.hid hn
  clear hn
  go_enter Try.func22, Try.ntmps22
  go_wp2_with fail
  go_loopw [3, 4] (fun s3 s4 W => ∃ k m : Nat, k ≤ n ∧ s4 = .int .i64 (k : Int) ∧ s3 = .int .i64 (liveWords s (all.take k) : Int) ∧ W = w.drewN m) (fun _ s4 _ => n - (intOf s4).toNat)
  case atStart => exact ⟨0, 0, Nat.zero_le _, rfl, by simp [liveWords], rfl⟩
  case round =>
    obtain ⟨k, m, hk, rfl, rfl, rfl⟩ := hrel
    have hb := liveWords_le (s := s) hO.size k
    by_cases hlt : k < n
    · obtain ⟨x, hx⟩ : ∃ x, all[k]? = some x := ⟨all[k]'(by rw [← HN.out]; exact hlt), List.getElem?_eq_getElem _⟩
      have hxm := List.mem_of_getElem? hx
      have hreg := hO.regs x hxm
      have hsz := hO.size x hxm
      have hsucc := liveWords_succ (s := s) hx
      obtain ⟨g5, e5, l5, p5, _⟩ := row_elem o5 hlt
      obtain ⟨g6, e6, l6, p6, _⟩ := row_elem o6 hlt
      rw [List.getElem?_map, hx] at p5 p6
      simp only [Option.map_some] at p5 p6
      obtain ⟨g0, e0, l0, p0, _⟩ := row_elem o0 (j := x.1) hreg
      have p0' : (openedL s)[x.1]? = some (.bool (decide (x.1 ∈ s.opens))) := by
        unfold openedL
        rw [List.getElem?_map, List.getElem?_range hreg]; rfl
      rw [p0'] at p0
      rw [e0] at q0
      rw [e5] at q5
      rw [e6] at q6
      obtain ⟨xr, xa, xl⟩ := x
      simp only at p5 p6 p0 hreg hsz hsucc
      have HS := Lib.hid hsucc
      clear e0 e5 e6 p0' hsucc hx hxm
      have b1 : (k : Int) < n := by omega
      have b2 : (0 : Int) ≤ k := by omega
      have b3 : (xr : Int) < s.many := by omega
      have b4 : (0 : Int) ≤ xr := by omega
      by_cases hop : xr ∈ s.opens
      · have hd : decide (xr ∈ s.opens) = true := by simpa using hop
        rw [hd] at p0
        have HD := Lib.hid hop
        clear hd hop
        go_wp2_with fail
        go_quiet (fail)
        go_wp2
        go_roundw
        case rel => exact ⟨k + 1, _, by omega, by go_num, by rw [HS.out, if_pos HD.out]; go_num, rfl⟩
        case measure => simp [intOf]; omega
      · have hd : decide (xr ∈ s.opens) = false := by simpa using hop
        rw [hd] at p0
        have HD := Lib.hid hop
        clear hd hop
        go_wp2_with fail
        go_quiet (fail)
        go_wp2
        go_roundw
        case rel => exact ⟨k + 1, _, by omega, by go_num, by rw [HS.out, if_neg HD.out]; go_num, rfl⟩
        case measure => simp [intOf]; omega
    · have hall : all.take k = all := List.take_of_length_le (by rw [← HN.out]; omega)
      rw [hall]
      clear hall
      go_wp2
      go_ret
      exact ⟨rfl, m, rfl⟩

set_option maxRecDepth 100000 in
set_option maxHeartbeats 800000 in
theorem ref_pages {w : World} {sp : Addr} {s : ASt} {F : Nat → Prop} (h : RefAt w sp s F) (hG : s.Good) (hW : s.Within 200) :
    Calls Try.prog 24 #[.pointer (some sp)] w fun e w' => e = .returned (.int .i64 s.pages) ∧ w' = w := by
  obtain ⟨sb, vs, all, data, rfl, rfl, hl, hR, hO⟩ := h
  obtain ⟨a3, c3, _, q3, o3⟩ := hR.at 3 (e := 3) (xs := ownL s) rfl
  have hlen : (ownL s).length = s.owner.length := by simp [ownL]
  rw [hlen] at q3 o3
  have lb := hR.blk.lt
  have how := hW.owner
  have hpg : s.pages = (s.owner.take s.owner.length).countP (·.isSome) := by rw [List.take_length]; rfl
  obtain ⟨n, hn⟩ : ∃ n, n = s.owner.length := ⟨_, rfl⟩
  rw [← hn] at q3 o3 how hpg
  rw [hpg]
  have HN := Lib.hid hn
  clear hn hpg
  have hbd : ∀ k, (s.owner.take k).countP (·.isSome) ≤ k := fun k => Nat.le_trans List.countP_le_length (List.length_take_le _ _)
  have HB := Lib.hid hbd
  clear hbd
  go_enter Try.func24, Try.ntmps24
  go_wp2_with fail
  go_loop [3, 4] (fun s3 s4 => ∃ k : Nat, k ≤ n ∧ s4 = .int .i64 (k : Int) ∧ s3 = .int .i64 ((s.owner.take k).countP (·.isSome) : Int)) (fun _ s4 => n - (intOf s4).toNat)
  case atStart => exact ⟨0, Nat.zero_le _, rfl, by simp⟩
  case round =>
    obtain ⟨k, hk, rfl, rfl⟩ := hrel
    have hb := HB.out k
    by_cases hlt : k < n
    · have hkl : k < s.owner.length := by rw [← HN.out]; exact hlt
      obtain ⟨g3, e3, l3, p3, _⟩ := row_elem o3 hlt
      have p3' : (ownL s)[k]? = some (.int .i64 (ownI s.owner[k])) := by unfold ownL; rw [List.getElem?_map, List.getElem?_eq_getElem hkl]; rfl
      rw [p3'] at p3
      rw [e3] at q3
      have hsucc : (s.owner.take (k + 1)).countP (·.isSome) = (s.owner.take k).countP (·.isSome) + if (s.owner[k]).isSome then 1 else 0 := by
        rw [List.take_succ_eq_append_getElem hkl, List.countP_append, List.countP_singleton]
      cases hok : s.owner[k] with
      | none =>
        rw [hok] at p3 hsucc
        simp only [ownI, Option.isSome_none, Bool.false_eq_true, if_false] at p3 hsucc
        have HS := Lib.hid hsucc
        clear hok hsucc p3' e3
        go_wp2
        go_round
        case rel => exact ⟨k + 1, by omega, by go_num, by rw [HS.out]; rfl⟩
        case measure => simp [intOf]; omega
      | some r =>
        rw [hok] at p3 hsucc
        simp only [ownI, Option.isSome_some, if_true] at p3 hsucc
        have HS := Lib.hid hsucc
        clear hok hsucc p3' e3
        have hr0 : decide ((0 : Int) ≤ (r : Int)) = true := by simp
        go_wp2
        go_round
        case rel => exact ⟨k + 1, by omega, by go_num, by rw [HS.out]; go_num⟩
        case measure => simp [intOf]; omega
    · have hkn : k = n := by omega
      subst hkn
      go_wp2
      go_ret
      exact ⟨rfl, rfl⟩

theorem ref_free {w : World} {sp : Addr} {s : ASt} {F : Nat → Prop} (h : RefAt w sp s F) (hG : s.Good) (hW : s.Within 200) :
    Calls Try.prog 26 #[.pointer (some sp)] w fun e w' => e = .returned (.int .i64 s.free) ∧ ∃ m, w' = w.drewN m := by
  have pg : Hid (∀ m, Calls Try.prog 24 #[.pointer (some sp)] (w.drewN m) fun e w' => e = .returned (.int .i64 s.pages) ∧ w' = w.drewN m) := fun m => ref_pages (ref_frame h (fun _ _ => rfl)) hG hW
  obtain ⟨sb, vs, all, data, rfl, rfl, hl, hR, hO⟩ := h
  obtain ⟨a3, c3, _, q3, o3⟩ := hR.at 3 (e := 3) (xs := ownL s) rfl
  have hlen : (ownL s).length = s.owner.length := by simp [ownL]
  rw [hlen] at q3 o3
  have lb := hR.blk.lt
  have how := hW.owner
  have hpf : s.pages + s.free = s.owner.length := by
    unfold ASt.pages ASt.free
    induction s.owner with
    | nil => rfl
    | cons o l ih => rw [List.countP_cons, List.countP_cons, List.length_cons]; cases o <;> simp <;> omega
  have e1 : (s.free : Int) = (s.owner.length : Int) - (s.pages : Int) := by omega
  rw [e1]
  obtain ⟨P, hP⟩ : ∃ P, P = s.pages := ⟨_, rfl⟩
  obtain ⟨n, hn⟩ : ∃ n, n = s.owner.length := ⟨_, rfl⟩
  rw [← hP, ← hn] at hpf
  rw [← hP] at pg
  rw [← hn] at q3 how
  rw [← hP, ← hn]
  have x1 : IntKind.i64.wrap ((n : Int) - (P : Int)) = (n : Int) - (P : Int) := IntWalk.i64_in _ (by omega)
  clear e1 hP hn hpf o3 hlen
  go_enter Try.func26, Try.ntmps26
  go_wp2_with fail
  go_quiet ((go_at_call 24; exact Calls.quiet_of_same (pg.out _)))
  go_wp2
  go_ret
  exact ⟨rfl, _, rfl⟩
end Go.Proofs.Ytfoacgdahonapaa
