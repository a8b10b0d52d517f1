/- 'field' of the program: the words of a cell from a field on. -/
import Derived.Test.YtfoacgdahonapaaOpen
namespace Go.Proofs.Ytfoacgdahonapaa
open Go.RowKit Abs Tree
set_option linter.unusedVariables false

/-- What 'field' answers. -/
def FieldIs (s : ASt) (L : Lay) (r a f : Int) (v : Value) : Prop :=
  (s.asked r a f ≠ 0 ∧ v = .slice none 0 0) ∨ (s.asked r a f = 0 ∧ ∃ (g n : Nat) (c : ACell) (k : Nat), s.cells.find? (·.is r a) = some c ∧ c ∈ s.cells ∧ (c.addr : Int) = a ∧ (k : Int) = f ∧ k < c.ws.length ∧ c.addr + k < s.owner.length * 16 ∧ pb L.vs = some g ∧ 1 ≤ n ∧ v = .slice (some ⟨g, c.addr + k, none⟩) n n)

theorem asked_range (s : ASt) (r a f : Int) : s.asked r a f = 0 ∨ s.asked r a f = 70 ∨ s.asked r a f = 71 ∨ s.asked r a f = 72 := by
  unfold ASt.asked
  split
  · split
    · exact .inr (.inr (.inl rfl))
    · split
      · exact .inl rfl
      · exact .inr (.inr (.inr rfl))
  · exact .inr (.inl rfl)

set_option maxRecDepth 100000 in
set_option maxHeartbeats 1600000 in
theorem st_field {w : World} {sp : Addr} {s : ASt} {L : Lay} (hL : SAt w sp s L) (hG : s.Good) (hW : s.Within 200) (r a f : Int) (hr : I64 r) (ha : I64 a) (hf : I64 f) :
    Calls Try.prog 37 #[.pointer (some sp), .int .i64 r, .int .i64 a, .int .i64 f] w fun e w' => ∃ v, e = .returned (.tuple #[v, .int .i64 (s.asked r a f)]) ∧ FieldIs s L r a f v ∧ w' = w := by
  have rg := st_region hL r hr
  obtain rfl := hL.sp
  obtain ⟨c0, c1⟩ := hL.c0
  by_cases hO : s.isOpen r
  · rw [if_pos hO] at rg
    have x := hL.regs r.toNat hO.2
    have m1 : w.cell? ⟨(L.reg r.toNat).rb, 1, none⟩ = some (.map (some (L.reg r.toNat).cb)) := by rw [x.blk.cell]; rfl
    have hr0 : ((r.toNat : Nat) : Int) = r := by have := hO.1; omega
    have lk := x.cells.lookI ha
    rw [hr0] at lk
    simp only [ptrOf] at rg
    obtain ⟨rb, hrb⟩ : ∃ rb, rb = (L.reg r.toNat).rb := ⟨_, rfl⟩
    obtain ⟨cb, hcb⟩ : ∃ cb, cb = (L.reg r.toNat).cb := ⟨_, rfl⟩
    rw [← hrb] at rg m1
    rw [← hcb] at m1 lk
    have RG := Lib.hid rg
    cases hfd : s.cells.find? (·.is r a) with
    | none =>
      have e71 : s.asked r a f = 71 := by unfold ASt.asked; rw [if_pos hO, hfd]
      have hF : Hid (FieldIs s L r a f (.slice none 0 0)) := .inl ⟨by rw [e71]; decide, rfl⟩
      rw [hfd] at lk
      rw [e71]
      simp only [Option.map_none, Option.getD_none, Option.isSome_none] at lk
      clear rg hfd hrb hcb x hO e71 hr0
      go_enter Try.func37, Try.ntmps37
      go_wp2_with (go_at_call 32; refine RG.out.mono ?_; rintro e w2 ⟨rfl, rfl⟩)
      go_ret2
      exact ⟨_, rfl, hF.out, rfl⟩
    | some c =>
      have hcm := List.mem_of_find?_eq_some hfd
      have his := List.find?_some hfd
      simp only [ACell.is, Bool.and_eq_true, beq_iff_eq] at his
      rw [hfd] at lk
      simp only [Option.map_some, Option.getD_some, Option.isSome_some] at lk
      have hwide := hW.wide c hcm
      obtain ⟨n, hn⟩ : ∃ n, n = c.ws.length := ⟨_, rfl⟩
      rw [← hn] at lk hwide
      by_cases hfr : 0 ≤ f ∧ f < n
      · have e0 : s.asked r a f = 0 := by
          unfold ASt.asked; rw [if_pos hO, hfd]; simp only; rw [if_pos (by rw [← hn]; exact hfr)]
        obtain ⟨k, rfl⟩ := Int.eq_ofNat_of_zero_le hfr.1
        obtain ⟨a', rfl⟩ : ∃ a' : Nat, a = (a' : Int) := ⟨c.addr, his.2.symm⟩
        have haa : a' = c.addr := by have := his.2; omega
        have hkn : k < n := by omega
        have howp := hG.paged c hcm (c.addr + k) (by omega) (by omega)
        have hlt : a' + k < s.owner.length * 16 := by
          have := (List.getElem?_eq_some_iff.1 howp).1
          rw [haa]; omega
        have hfew := hL.pg.few
        obtain ⟨pa, cap, h3, hg3⟩ := hL.pg.at3
        have own := hL.pg.own
        rw [hg3] at own
        obtain ⟨g, cap', hq, hgl, _⟩ := row_some own (by omega)
        simp only [Value.slice.injEq, true_and] at hq
        obtain ⟨rfl, rfl⟩ := hq
        have hpb : pb L.vs = some g := by unfold pb; rw [hg3]; rfl
        have c3 : w.cell? ⟨L.mb, 3, none⟩ = some (.slice (some ⟨g, 0, none⟩) s.owner.length cap) := by rw [hL.pg.tr.1.cell, h3]
        have wd := st_words (first := a' + k) (count := n - k) c3 hfew hlt (by omega) (by omega)
        have e1 : (((a' + k : Nat)) : Int) = (a' : Int) + (k : Int) := by omega
        have e2 : ((n - k : Nat) : Int) = (n : Int) - (k : Int) := by omega
        rw [e1, e2] at wd
        have WD := Lib.hid wd
        have hF : Hid (∀ m, 1 ≤ m → FieldIs s L r (a' : Int) (k : Int) (.slice (some ⟨g, a' + k, none⟩) m m)) := fun m hm =>
          .inr ⟨e0, g, m, c, k, hfd, hcm, by omega, rfl, by omega, by omega, hpb, hm, by rw [haa]⟩
        have d1 : decide ((k : Int) < 0) = false := by simp
        have d2 : decide ((n : Int) ≤ (k : Int)) = false := by simp; omega
        have d3 : decide (n ≤ k) = false := by simp; omega
        have al : a' ≤ 1000000 := by omega
        rw [e0]
        clear rg hfd hrb hcb x hO e0 hr0 hcm his hn hfr haa howp hlt own hg3 h3 hpb wd e1 e2 c3 hgl hfew
        go_enter Try.func37, Try.ntmps37
        go_wp2_with (first | (go_at_call 32; refine RG.out.mono ?_; rintro e w2 ⟨rfl, rfl⟩) | (go_at_call 42; refine WD.out.mono ?_; rintro e w2 ⟨⟨m, hm, rfl⟩, rfl⟩))
        go_ret2
        exact ⟨_, rfl, hF.out m hm, rfl⟩
      · have e72 : s.asked r a f = 72 := by
          unfold ASt.asked; rw [if_pos hO, hfd]; simp only; rw [if_neg (by rw [← hn]; exact hfr)]
        have hF : Hid (FieldIs s L r a f (.slice none 0 0)) := .inl ⟨by rw [e72]; decide, rfl⟩
        rw [e72]
        by_cases hneg : f < 0
        · have d1 : decide (f < 0) = true := by simpa using hneg
          clear rg hfd hrb hcb x hO e72 hr0 hcm his hn hfr hneg hwide
          go_enter Try.func37, Try.ntmps37
          go_wp2_with (go_at_call 32; refine RG.out.mono ?_; rintro e w2 ⟨rfl, rfl⟩)
          go_ret2
          exact ⟨_, rfl, hF.out, rfl⟩
        · have d1 : decide (f < 0) = false := by simpa using hneg
          have d2 : decide ((n : Int) ≤ f) = true := by simp; omega
          clear rg hfd hrb hcb x hO e72 hr0 hcm his hn hfr hneg hwide
          go_enter Try.func37, Try.ntmps37
          go_wp2_with (go_at_call 32; refine RG.out.mono ?_; rintro e w2 ⟨rfl, rfl⟩)
          go_ret2
          exact ⟨_, rfl, hF.out, rfl⟩
  · rw [if_neg hO] at rg
    have e70 : s.asked r a f = 70 := by unfold ASt.asked; rw [if_neg hO]
    have hF : Hid (FieldIs s L r a f (.slice none 0 0)) := .inl ⟨by rw [e70]; decide, rfl⟩
    simp only [ptrOf] at rg
    have RG := Lib.hid rg
    rw [e70]
    clear rg e70 hO
    go_enter Try.func37, Try.ntmps37
    go_wp2_with (go_at_call 32; refine RG.out.mono ?_; rintro e w2 ⟨rfl, rfl⟩)
    go_ret2
    exact ⟨_, rfl, hF.out, rfl⟩

end Go.Proofs.Ytfoacgdahonapaa
