/- 'Get' and 'Set' of the program. -/
import Derived.Test.YtfoacgdahonapaaField
namespace Go.Proofs.Ytfoacgdahonapaa
open Go.RowKit Abs Tree
set_option linter.unusedVariables false

theorem got_is {s : ASt} {r a f : Int} (h : s.asked r a f = 0) {c : ACell} {k : Nat} (hc : s.cells.find? (·.is r a) = some c) (hk : (k : Int) = f) (hl : k < c.ws.length) : ∃ z, c.ws[k]? = some z ∧ s.got r a f = z := by
  refine ⟨c.ws[k], List.getElem?_eq_getElem hl, ?_⟩
  unfold ASt.got
  rw [if_pos h, hc]
  simp only
  rw [← hk, Int.toNat_natCast, List.getD_eq_getElem?_getD, List.getElem?_eq_getElem hl]; rfl

set_option maxRecDepth 100000 in
set_option maxHeartbeats 1600000 in
theorem sa_got {w : World} {sp : Addr} {s : ASt} {F : Nat → Prop} (h : SA w sp s F) (hG : s.Good) (hW : s.Within 200) (r a f : Int) (hr : I64 r) (ha : I64 a) (hf : I64 f) :
    Calls Try.prog 17 #[.pointer (some sp), .int .i64 r, .int .i64 a, .int .i64 f] w fun e w' => e = .returned (.tuple #[.int .i64 (s.got r a f), .int .i64 (s.asked r a f)]) ∧ Kept Nil w w' := by
  obtain ⟨L, hL, rfl⟩ := h
  have fd := st_field hL hG hW r a f hr ha hf
  by_cases h0 : s.asked r a f = 0
  · rw [h0] at fd ⊢
    have hv : ∀ v, FieldIs s L r a f v → ∃ (g ad n : Nat), 1 ≤ n ∧ v = .slice (some ⟨g, ad, none⟩) n n ∧ w.cell? ⟨g, ad, none⟩ = some (.int .i64 (s.got r a f)) ∧ g < w.heap.size := by
      rintro v (⟨h1, _⟩ | ⟨_, g, n, c, k, hfd, hcm, hca, hk, hkl, hlt, hpb, hn, rfl⟩)
      · exact absurd h0 h1
      · obtain ⟨z, hz, hgz⟩ := got_is h0 hfd hk hkl
        refine ⟨g, c.addr + k, n, hn, rfl, ?_, hL.pg.lt.2.1 g hpb⟩
        obtain ⟨pa, cap, h3, hg3⟩ := hL.pg.at3
        have own := hL.pg.own
        unfold pb at hpb
        rw [hg3] at own hpb
        obtain ⟨g', cap', hq, _, _, _, hc'⟩ := row_some own (by omega)
        simp only [Value.slice.injEq, true_and] at hq
        obtain ⟨rfl, rfl⟩ := hq
        simp only [Value.ownBlock, Option.some.injEq] at hpb
        subst hpb
        rw [hc' _ hlt]
        unfold ints
        rw [List.getElem?_map, hL.vals c hcm k z hz, hgz]; rfl
    obtain ⟨z, hz⟩ : ∃ z, z = s.got r a f := ⟨_, rfl⟩
    rw [← hz] at hv ⊢
    have HV := Lib.hid hv
    have FD := Lib.hid fd
    clear fd hv h0 hz hL
    go_enter Try.func17, Try.ntmps17
    go_upto_region 5 with (go_at_call 37; refine FD.out.mono ?_; rintro e w2 ⟨v, rfl, hF, rfl⟩)
    obtain ⟨g, ad, n, hn, rfl, hc, hgl⟩ := HV.out v hF
    have hcp : ∃ Wr, (Builtin.copy_ #[29, 29] 3 #[.slice (some ⟨w2.heap.size, 0, none⟩) 1 1, .slice (some ⟨g, ad, none⟩) n n]).run Try.prog (w2.alloc (.cells #[.int .i64 0] 79)) =
        .ok (.int .i64 1) Wr ∧ Blk Wr w2.heap.size [.int .i64 z] 79 ∧ Kept Nil w2 Wr := by
      obtain ⟨i0, hi0, hz0, hz1, hz2⟩ := info_parts pInfoI64
      have hb : Blk (w2.alloc (.cells #[.int .i64 0] 79)) w2.heap.size [.int .i64 0] 79 := Blk.new rfl
      have hmin : Nat.min n 1 = 1 := Nat.min_eq_right hn
      have h1 := run_copy_row (P := Try.prog) (w2.alloc (.cells #[.int .i64 0] 79)) 29 29 3 2 w2.heap.size 0 1 1 ⟨g, ad, none⟩ n n _ _ [.int .i64 z] Try.underlying29 (by rw [hi0]; simp [hz1]) hb (by rw [hmin]; rfl)
        (fun j v hj => by
          cases j with
          | zero =>
            simp only [List.getElem?_cons_zero, Option.some.injEq] at hj
            subst hj
            have e1 : (⟨g, ad, none⟩ : Addr).add 0 = ⟨g, ad, none⟩ := by unfold Addr.add; split <;> simp_all
            rw [e1]
            exact ((Kept.refl Nil w2).alloc _).cell hc (fun h => h)
          | succ j => simp at hj) (by simp) (by simp [Value.oneCell'])
      refine ⟨_, h1, setRow_heap _ _ _ _ _ (0, 0) hb, ?_⟩
      exact ((Kept.refl Nil w2).alloc _).next (T := (· = w2.heap.size)) ⟨rfl, rfl, rfl, by simp, fun k _ hk => setRow_other _ _ k _ hk⟩ (fun i hi => .inr (by omega))
    obtain ⟨Wr, hcp, bW, kW⟩ := hcp
    have q0 := bW.cell 0
    simp only [List.getElem?_cons_zero] at q0
    clear HV FD hF
    go_wp2
    go_ret2
    exact ⟨rfl, kW⟩
  · have hg : s.got r a f = 0 := by unfold ASt.got; rw [if_neg h0]
    rw [hg]
    obtain ⟨ev, hev⟩ : ∃ ev, ev = s.asked r a f := ⟨_, rfl⟩
    rw [← hev] at fd h0 ⊢
    have d1 : (ev == 0) = false := by simpa using h0
    have FD := Lib.hid fd
    clear fd h0 hg hev hL
    go_enter Try.func17, Try.ntmps17
    go_wp2_with (go_at_call 37; refine FD.out.mono ?_; rintro e w2 ⟨v, rfl, hF, rfl⟩)
    go_ret2
    exact ⟨rfl, Kept.refl _ _⟩

end Go.Proofs.Ytfoacgdahonapaa
