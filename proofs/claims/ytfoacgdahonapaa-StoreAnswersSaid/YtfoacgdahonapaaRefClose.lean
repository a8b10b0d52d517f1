/- The reference gives a region back. -/
import Derived.Test.YtfoacgdahonapaaRef
namespace Go.Proofs.Ytfoacgdahonapaa
open Go.RowKit Abs
set_option linter.unusedVariables false

/-- Of two lists of one length the first k of the one, the rest of the other. -/
def mix {α : Type} (a b : List α) (k : Nat) : List α := a.take k ++ b.drop k

theorem mix_get {α : Type} {a b : List α} (h : a.length = b.length) {k : Nat} (hk : k < a.length) : (mix a b k)[k]? = b[k]? := by
  unfold mix
  rw [List.getElem?_append_right (by rw [List.length_take]; omega), List.length_take, List.getElem?_drop]
  congr 1; omega

theorem mix_length {α : Type} {a b : List α} (h : a.length = b.length) {k : Nat} (hk : k ≤ a.length) : (mix a b k).length = a.length := by
  unfold mix
  rw [List.length_append, List.length_take, List.length_drop]; omega

theorem mix_set {α : Type} {a b : List α} (h : a.length = b.length) {k : Nat} {x : α} (hk : a[k]? = some x) : (mix a b k).set k x = mix a b (k + 1) := by
  obtain ⟨hl, rfl⟩ := List.getElem?_eq_some_iff.1 hk
  apply List.ext_getElem?
  intro i
  unfold mix
  rw [List.getElem?_set]
  by_cases hi : k = i
  · subst hi
    rw [if_pos rfl, if_pos (by rw [List.length_append, List.length_take, List.length_drop]; omega), List.getElem?_append_left (by rw [List.length_take]; omega), List.getElem?_take, if_pos (by omega), List.getElem?_eq_getElem hl]
  · rw [if_neg hi]
    by_cases h1 : i < k
    · rw [List.getElem?_append_left (by rw [List.length_take]; omega), List.getElem?_append_left (by rw [List.length_take]; omega), List.getElem?_take, List.getElem?_take, if_pos h1, if_pos (by omega)]
    · rw [List.getElem?_append_right (by rw [List.length_take]; omega), List.getElem?_append_right (by rw [List.length_take]; omega), List.length_take, List.length_take, List.getElem?_drop, List.getElem?_drop]
      congr 1; omega

theorem mix_same {α : Type} {a b : List α} (h : a.length = b.length) {k : Nat} (hk : k < a.length) (he : a[k]? = b[k]?) : mix a b (k + 1) = mix a b k := by
  have hx : a[k]? = some a[k] := List.getElem?_eq_getElem hk
  rw [← mix_set h hx]
  apply List.ext_getElem?
  intro i
  rw [List.getElem?_set]
  by_cases hi : k = i
  · subst hi
    rw [if_pos rfl, if_pos (by rw [mix_length h (by omega)]; exact hk), mix_get h hk, ← he, hx]
  · rw [if_neg hi]

theorem mix_all {α : Type} {a b : List α} (h : a.length = b.length) : mix a b a.length = a := by
  unfold mix; rw [List.take_length, List.drop_of_length_le (by omega)]; simp

theorem mix_zero {α : Type} (a b : List α) : mix a b 0 = b := rfl

theorem closed_rows {s : ASt} (r : Nat) : openedL (s.closed r) = (openedL s).set r (.bool false) ∧ curL (s.closed r) = curL s ∧ fillL (s.closed r) = fillL s := by
  refine ⟨?_, rfl, rfl⟩
  apply List.ext_getElem?
  intro i
  unfold openedL
  rw [List.getElem?_set, List.getElem?_map, List.getElem?_map, List.length_map, List.length_range]
  show ((List.range s.many)[i]?).map _ = _
  by_cases hi : i < s.many
  · rw [List.getElem?_range hi]
    by_cases he : r = i
    · subst he
      rw [if_pos rfl, if_pos hi]
      simp [ASt.closed]
    · rw [if_neg he]
      simp only [Option.map_some, ASt.closed, List.mem_filter]
      congr 2
      simp [Ne.symm he]
  · have : (List.range s.many)[i]? = none := List.getElem?_eq_none (by simpa using hi)
    rw [this]
    split
    · rw [if_neg (by omega)]; rfl
    · rfl

theorem RefOk.closed {s : ASt} {all : List Ent} {data : List Int} (h : RefOk s all data) (r : Nat) : RefOk (s.closed r) all data := by
  refine ⟨?_, h.ever, h.regs, h.size, by have := h.dlen; simp only [ASt.closed, List.length_map]; exact this, fun c hc => h.vals c (List.mem_filter.1 hc).1⟩
  show List.filter _ all = (s.cells.filter (·.reg ≠ r)).map _
  have e1 : all.filter (fun x => decide (x.1 ∈ (s.closed r).opens)) = (all.filter (fun x => decide (x.1 ∈ s.opens))).filter (fun x => decide (x.1 ≠ r)) := by
    rw [List.filter_filter]
    refine List.filter_congr fun x _ => ?_
    simp only [ASt.closed, List.mem_filter]
    by_cases h1 : x.1 ∈ s.opens <;> by_cases h2 : x.1 = r <;> simp [h1, h2]
  rw [e1, h.live, List.filter_map]
  rfl

set_option maxRecDepth 100000 in
set_option maxHeartbeats 1600000 in
theorem ref_closed {w : World} {sp : Addr} {s : ASt} {F : Nat → Prop} (h : RefAt w sp s F) (hG : s.Good) (hW : s.Within 200) (r : Nat) (hr : r ∈ s.opens) :
    Calls Try.prog 14 #[.pointer (some sp), .int .i64 (r : Int)] w fun e w' => e = .returned (.int .i64 0) ∧ Now RefAt w F sp (s.closed r) w' := by
  have hrm := hG.lt r hr
  have hmy := hW.many
  have io := ref_isOpen h hG hW.many (r : Int) ⟨by omega, by omega⟩
  rw [show decide (s.isOpen (r : Int)) = true from by simp [ASt.isOpen, hr]] at io
  have IO := Lib.hid io
  clear io
  obtain ⟨sb, vs, all, data, rfl, rfl, hl, hR, hO⟩ := h
  obtain ⟨a0, c0, v0, q0, o0⟩ := hR.at 0 (e := 4) (xs := openedL s) rfl
  obtain ⟨a3, c3, v3, q3, o3⟩ := hR.at 3 (e := 3) (xs := ownL s) rfl
  have l0 : (openedL s).length = s.many := by simp [openedL]
  have l3 : (ownL s).length = s.owner.length := by simp [ownL]
  rw [l0] at q0 o0 v0
  rw [l3] at q3 v3
  have lb := hR.blk.lt
  have how := hW.owner
  obtain ⟨g0, e0, lg0, p0, f0⟩ := row_elem o0 hrm
  have p0' : (openedL s)[r]? = some (.bool (decide (r ∈ s.opens))) := by
    unfold openedL
    rw [List.getElem?_map, List.getElem?_range hrm]; rfl
  rw [p0'] at p0
  rw [e0] at q0 v0
  obtain ⟨R1, K1⟩ := hR.written (i := 0) v0 rfl (by rw [l0]) r (.bool false)
  have elen : (ownL (s.closed r)).length = (ownL s).length := by simp [ownL, ASt.closed]
  have hmixl : ∀ k, k ≤ s.owner.length → (mix (ownL (s.closed r)) (ownL s) k).length = s.owner.length := fun k hk => by rw [mix_length elen (by rw [elen, l3]; exact hk), elen, l3]
  have R0 : Recs (w.setCell ⟨g0, r, none⟩ (.bool false)) sb vs (((refRows s all data).set 0 (4, (openedL s).set r (.bool false))).set 3 (3, mix (ownL (s.closed r)) (ownL s) 0)) 31 := R1
  have HR0 := Lib.hid R0
  have HK1 := Lib.hid K1
  have V3 := Lib.hid v3
  have HL := Lib.hid hmixl
  have EL := Lib.hid elen
  obtain ⟨n, hn⟩ : ∃ n, n = s.owner.length := ⟨_, rfl⟩
  rw [← hn] at q3 how
  have HN := Lib.hid hn
  clear R1 R0 K1 e0 p0' v0 v3 hmixl elen l0 l3 o0 o3 hn
  go_enter Try.func14, Try.ntmps14
  go_wp2_with fail
  refine IO.out.mono ?_
  rintro e w' ⟨rfl, rfl⟩
  go_wp2_with fail
  go_loopw [5] (fun s5 W => ∃ k : Nat, k ≤ n ∧ s5 = .int .i64 (k : Int) ∧ Recs W sb vs (((refRows s all data).set 0 (4, (openedL s).set r (.bool false))).set 3 (3, mix (ownL (s.closed r)) (ownL s) k)) 31 ∧ Kept (recF sb vs) w' W) (fun s5 _ => n - (intOf s5).toNat)
  case atStart => exact ⟨0, Nat.zero_le _, rfl, HR0.out, HK1.out⟩
  case round =>
    clear q0 q3 p0 f0 lg0 lb
    obtain ⟨k, hk, rfl, hRk, hKk⟩ := hrel
    have lb := hRk.blk.lt
    have q3 := hRk.cell 3
    rw [V3.out, ← HN.out] at q3
    by_cases hlt : k < n
    · have hkl : k < s.owner.length := by rw [← HN.out]; exact hlt
      have o3 := hRk.own 3 _ 3 (mix (ownL (s.closed r)) (ownL s) k) V3.out rfl
      rw [HL.out k (by omega), ← HN.out] at o3
      obtain ⟨g3, e3, lg3, p3, f3⟩ := row_elem o3 hlt
      have hk2 : k < (ownL (s.closed r)).length := by rw [EL.out]; simp [ownL]; exact hkl
      rw [mix_get EL.out hk2] at p3
      have p3' : (ownL s)[k]? = some (.int .i64 (ownI s.owner[k])) := by unfold ownL; rw [List.getElem?_map, List.getElem?_eq_getElem hkl]; rfl
      rw [p3'] at p3
      have hnew : (ownL (s.closed r))[k]? = some (.int .i64 (ownI (if s.owner[k] = some r then none else s.owner[k]))) := by
        unfold ownL
        simp only [ASt.closed]
        rw [List.getElem?_map, List.getElem?_map, List.getElem?_eq_getElem hkl]; rfl
      have V3' := V3.out
      rw [e3] at V3' q3
      by_cases ho : s.owner[k] = some r
      · rw [ho] at p3 p3' hnew
        simp only [ownI, if_true] at p3 hnew
        have hw := hRk.written (i := 3) V3' rfl (by rw [HL.out k (by omega)]) k (.int .i64 (-1))
        rw [mix_set EL.out hnew] at hw
        obtain ⟨Rn, Kn⟩ := hw
        have RN : Hid (Recs (wr.setCell ⟨g3, k, none⟩ (.int .i64 (-1))) sb vs (((refRows s all data).set 0 (4, (openedL s).set r (.bool false))).set 3 (3, mix (ownL (s.closed r)) (ownL s) (k + 1))) 31) := by
          have : ((((refRows s all data).set 0 (4, (openedL s).set r (.bool false))).set 3 (3, mix (ownL (s.closed r)) (ownL s) k)).set 3 (3, mix (ownL (s.closed r)) (ownL s) (k + 1))) = (((refRows s all data).set 0 (4, (openedL s).set r (.bool false))).set 3 (3, mix (ownL (s.closed r)) (ownL s) (k + 1))) := by rfl
          rw [← this]; exact Rn
        have KN := Lib.hid Kn
        have ht : ((r : Int) == (r : Int)) = true := by simp
        clear Rn Kn ho hnew p3' e3 V3' o3
        go_wp2
        go_roundw
        case rel => exact ⟨k + 1, by omega, by go_num, RN.out, hKk.trans KN.out⟩
        case measure => simp [intOf]; omega
      · rw [if_neg ho] at hnew
        have hsame := mix_same EL.out hk2 (hnew.trans p3'.symm)
        have hRn := hRk
        rw [← hsame] at hRn
        have RN := Lib.hid hRn
        obtain ⟨z, hz⟩ : ∃ z, z = ownI s.owner[k] := ⟨_, rfl⟩
        have hzr : z ≠ (r : Int) := by
          rw [hz]
          cases hok : s.owner[k] with
          | none => simp only [ownI]; omega
          | some q =>
            simp only [ownI]
            intro e
            have : q = r := by omega
            exact ho (by rw [hok, this])
        rw [← hz] at p3
        have ht : (z == (r : Int)) = false := by rw [beq_eq_false_iff_ne]; exact hzr
        clear hRn ho hnew p3' e3 V3' o3 hz hsame
        go_wp2
        go_roundw
        case rel => exact ⟨k + 1, by omega, by go_num, RN.out, hKk⟩
        case measure => simp [intOf]; omega
    · have hall : mix (ownL (s.closed r)) (ownL s) k = ownL (s.closed r) := by
        have : k = (ownL (s.closed r)).length := by rw [EL.out]; simp [ownL]; have := HN.out; omega
        rw [this]; exact mix_all EL.out
      rw [hall] at hRk
      have RN := Lib.hid hRk
      clear hall
      go_wp2
      go_ret
      refine ⟨rfl, recF sb vs, ⟨sb, vs, all, data, rfl, rfl, hl, ?_, hO.closed r⟩, fun _ hh => .inl hh, hKk⟩
      obtain ⟨e0, e1, e2⟩ := closed_rows (s := s) r
      have er : ((refRows s all data).set 0 (4, (openedL s).set r (.bool false))).set 3 (3, ownL (s.closed r)) = refRows (s.closed r) all data := by
        unfold refRows
        rw [e0, e1, e2]; rfl
      rw [← er]
      exact RN.out

theorem ref_shut {w : World} {sp : Addr} {s : ASt} {F : Nat → Prop} (h : RefAt w sp s F) (hG : s.Good) (hW : s.Within 200) (r : Int) (hr : I64 r) (hn : ¬ s.isOpen r) :
    Calls Try.prog 14 #[.pointer (some sp), .int .i64 r] w fun e w' => e = .returned (.int .i64 70) ∧ w' = w := by
  have io := ref_isOpen h hG hW.many r hr
  rw [show decide (s.isOpen r) = false from by simpa using hn] at io
  have IO := Lib.hid io
  clear io
  obtain ⟨sb, vs, all, data, rfl, rfl, hl, hR, hO⟩ := h
  go_enter Try.func14, Try.ntmps14
  go_wp2_with fail
  refine IO.out.mono ?_
  rintro e w' ⟨rfl, rfl⟩
  go_wp2
  go_ret
  exact ⟨rfl, rfl⟩
end Go.Proofs.Ytfoacgdahonapaa
