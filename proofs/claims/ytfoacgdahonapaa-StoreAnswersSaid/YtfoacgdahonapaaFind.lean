/- 'find' of the program: the least place of so many waiting pages in a row. -/
import Derived.Test.YtfoacgdahonapaaAdd
import Derived.BigRegion
import Derived.Deep.RegionLaw
namespace Go.Proofs.Ytfoacgdahonapaa
open Go.RowKit Abs Tree
set_option linter.unusedVariables false

/-- What 'find' says. -/
def Found (b : Nat → Bool) (count : Nat) (p : Nat) (ok : Bool) : Prop :=
  (ok = true ∧ Run b p count ∧ ∀ q, q < p → ¬ Run b q count) ∨ (ok = false ∧ p = 0 ∧ ∀ q, ¬ Run b q count)

/-- A round's state. -/
structure FAt (b : Nat → Bool) (D count e node first half : Nat) : Prop where
  seek : Seek b D count e node first
  half : half = 2 ^ (D - e) / 2

theorem FAt.nodes {b : Nat → Bool} {D count e node first half : Nat} (h : FAt b D count e node first half) (hh : 0 < half) : e < D ∧ half = 2 ^ (D - (e + 1)) ∧ 2 * node + 1 < 2 ^ (D + 1) := by
  have hl := h.seek.le
  have hf := h.half
  have he : e < D := by
    rcases Nat.lt_or_ge e D with h1 | h1
    · exact h1
    · rw [show D - e = 0 by omega] at hf; simp at hf; omega
  have e1 : D - e = D - (e + 1) + 1 := by omega
  rw [e1, Nat.pow_succ] at hf
  have n2 := h.seek.n2
  have p1 : 2 ^ (e + 1) * 2 ≤ 2 ^ (D + 1) := by rw [← Nat.pow_succ]; exact Nat.pow_le_pow_right (by omega) (by omega)
  exact ⟨he, by omega, by omega⟩

theorem FAt.leafward {b : Nat → Bool} {D count e node first half : Nat} {r : Nat → Rw} (hR : Right b D r) (h : FAt b D count e node first half) (hh : 0 < half) :
    (count ≤ (r (2 * node)).m → FAt b D count (e + 1) (2 * node) first (half / 2)) ∧
    ((r (2 * node)).m < count → count ≤ (r (2 * node)).k + (r (2 * node + 1)).f → (r (2 * node)).k ≤ first + half ∧ Found b count (first + half - (r (2 * node)).k) true) ∧
    ((r (2 * node)).m < count → (r (2 * node)).k + (r (2 * node + 1)).f < count → FAt b D count (e + 1) (2 * node + 1) (first + half) (half / 2)) := by
  obtain ⟨he, h2, _⟩ := h.nodes hh
  refine ⟨fun hm => ⟨h.seek.left hR he hm, by rw [h2]⟩, fun hm hc => ?_, fun hm hc => ⟨by rw [h2]; exact h.seek.right hR he hm hc, by rw [h2]⟩⟩
  have ha := h.seek.across hR he hm hc
  obtain ⟨hp, _, _⟩ := h.seek.parts hR he
  rw [← h2] at ha hp
  have := hp.kle
  exact ⟨by omega, .inl ⟨rfl, ha.1, ha.2⟩⟩

theorem FAt.leaf {b : Nat → Bool} {D count e node first half : Nat} (h : FAt b D count e node first half) (hh : half = 0) (hc : 1 ≤ count) : Found b count first true := by
  have hf := h.half
  have hl := h.seek.le
  have he : e = D := by
    rcases Nat.lt_or_ge e D with h1 | h1
    · have e1 : D - e = D - (e + 1) + 1 := by omega
      rw [e1, Nat.pow_succ] at hf
      have := Nat.two_pow_pos (D - (e + 1))
      omega
    · omega
  subst he
  have := h.seek.leaf hc
  exact .inl ⟨rfl, this.1, this.2⟩

theorem FAt.bounds {b : Nat → Bool} {D count e node first half : Nat} (h : FAt b D count e node first half) : first + half ≤ 2 ^ D ∧ node < 2 ^ (D + 1) ∧ half ≤ 2 ^ D := by
  have s := h.seek
  have l := s.le
  have n1 := s.n1
  have n2 := s.n2
  have hf := h.half
  have e1 : 2 ^ (e + 1) = 2 ^ e + 2 ^ e := by rw [Nat.pow_succ]; omega
  have e2 : 2 ^ D = 2 ^ e * 2 ^ (D - e) := by rw [← Nat.pow_add]; congr 1; omega
  have e3 : (node - 2 ^ e + 1) * 2 ^ (D - e) ≤ 2 ^ e * 2 ^ (D - e) := Nat.mul_le_mul_right _ (by omega)
  rw [Nat.add_mul, Nat.one_mul, ← s.at0, ← e2] at e3
  have e4 : 2 ^ (e + 1) ≤ 2 ^ (D + 1) := Nat.pow_le_pow_right (by omega) (by omega)
  exact ⟨by omega, by omega, by omega⟩

theorem none_found {b : Nat → Bool} {D count : Nat} {r : Nat → Rw} (hR : Right b D r) (hb : ∀ i, 2 ^ D ≤ i → b i = false) (hm : (r 1).m < count) : Found b count 0 false := by
  refine .inr ⟨rfl, rfl, fun q hq => ?_⟩
  have h1 := hR 0 (Nat.zero_le _) 1 (by simp) (by simp)
  unfold Ok at h1
  simp only [Nat.pow_zero, Nat.sub_self, Nat.zero_mul, Nat.sub_zero] at h1
  have hq2 : q + count ≤ 0 + 2 ^ D := by
    have h2 := hq (q + count - 1) (by omega) (by omega)
    by_cases h3 : 2 ^ D ≤ q + count - 1
    · rw [hb _ h3] at h2; cases h2
    · omega
  have := h1.most q count (by omega) hq2 hq
  omega

set_option maxRecDepth 100000 in
set_option maxHeartbeats 1600000 in
theorem st_find {w : World} {mb : Nat} {vs : List Value} {b : Nat → Bool} {count cnt : Nat} (h : Tr w mb vs b) (h5 : vs[5]? = some (.int .i64 (cnt : Int))) (hc : cnt ≤ 1000000) (hk : 1 ≤ count) (hk2 : count ≤ 100000)
    (hmany : ∀ p, Run b p count → count ≤ cnt) (hsome : 1 ≤ cnt → ∃ i, b i = true) :
    Calls Try.prog 48 #[.pointer (some ⟨mb, 4, none⟩), .int .i64 (count : Int)] w fun e w' => ∃ p ok, e = .returned (.tuple #[.int .i64 ((p : Nat) : Int), .bool ok]) ∧ Found b count p ok ∧ p ≤ 200000 ∧ Kept Nil w w' := by
  have lb := h.1.lt
  have c5 := h.1.cell 5
  rw [h5] at c5
  by_cases hlt : cnt < count
  · have d1 : decide ((cnt : Int) < (count : Int)) = true := by simp; omega
    have e1 : decide (cnt < count) = true := by simp; omega
    have hf : Hid (Found b count 0 false) := .inr ⟨rfl, rfl, fun q hq => by have := hmany q hq; omega⟩
    clear hlt hmany hsome h h5
    go_enter Try.func48, Try.ntmps48
    go_wp2
    go_ret2
    exact ⟨0, false, rfl, hf.out, by omega, Kept.refl _ _⟩
  · rcases h.2 with ⟨_, h0⟩ | ⟨g, n, cap, rs, D, N, R, hl, hn, hout⟩
    · obtain ⟨i, hi⟩ := hsome (by omega)
      rw [h0 i] at hi; cases hi
    have d1 : decide ((cnt : Int) < (count : Int)) = false := by simp; omega
    have e1 : decide (cnt < count) = false := by simp; omega
    have hlen := N.len
    have p1 : 2 ^ (D + 1) = 2 * 2 ^ D := by rw [Nat.pow_succ]; omega
    have p0 : 0 < 2 ^ D := Nat.two_pow_pos D
    obtain ⟨q1, q2, q3⟩ := N.row (i := 1) (by omega)
    have c4 := N.cell
    have n1 : (1 : Int) < n := by omega
    have lbg := N.lt.2
    obtain ⟨top, htop⟩ : ∃ top, top = (rw rs 1).m := ⟨_, rfl⟩
    rw [← htop] at q3
    have HT := Lib.hid htop
    have NN := Lib.hid N
    have RR := Lib.hid R
    have HOut := Lib.hid hout
    by_cases hm : top < count
    · have d2 : decide ((top : Int) < (count : Int)) = true := by simp; omega
      have e2 : decide (top < count) = true := by simp; omega
      have hf : Hid (Found b count 0 false) := none_found R hout (by rw [← htop]; exact hm)
      clear hlt hmany hsome h h5 R hout htop hl hlen p1 p0 hm N
      go_enter Try.func48, Try.ntmps48
      go_wp2
      go_ret2
      exact ⟨0, false, rfl, hf.out, by omega, Kept.refl _ _⟩
    · have d2 : decide ((top : Int) < (count : Int)) = false := by simp; omega
      have e2 : decide (top < count) = false := by simp; omega
      have hd2 : n / 2 = 2 ^ D := by omega
      have lv := st_leaves c4 hn
      rw [hd2] at lv
      obtain ⟨L, hL⟩ : ∃ L, L = 2 ^ D := ⟨_, rfl⟩
      rw [← hL] at lv
      have hf0 : FAt b D count 0 1 0 (L / 2) := ⟨Seek.start R (by rw [← htop]; omega), by rw [hL, Nat.sub_zero]⟩
      have hqL : (L : Int).tdiv 2 = ((L / 2 : Nat) : Int) := by rw [Int.tdiv_eq_ediv_of_nonneg (by omega)]; omega
      have LV := Lib.hid lv
      have HL := Lib.hid hL
      have F0 := Lib.hid hf0
      have hnL : n = 2 * L := by omega
      have HNL := Lib.hid hnL
      have hLb : L ≤ 200000 := by omega
      clear hlt hmany hsome h h5 R hout htop hl hlen p1 p0 hm N hd2 lv hL hf0 hnL
      go_enter Try.func48, Try.ntmps48
      go_wp2_with (go_at_call 43; refine LV.out.mono ?_; rintro e w2 ⟨rfl, rfl⟩)
      go_loopw [6, 7, 8] (fun s6 s7 s8 W => ∃ e node first half : Nat, s6 = .int .i64 (node : Int) ∧ s7 = .int .i64 (first : Int) ∧ s8 = .int .i64 (half : Int) ∧ node ≤ 400000 ∧ first + half ≤ 200000 ∧ Hid (FAt b D count e node first half) ∧ Kept Nil w2 W) (fun _ _ s8 _ => (intOf s8).toNat)
      case atStart =>
        have hb := F0.out.bounds
        have h1 := HL.out
        exact ⟨0, 1, 0, L / 2, rfl, rfl, by go_num, by omega, by omega, F0.out, Kept.refl _ _⟩
      case round =>
        obtain ⟨e, node, first, half, rfl, rfl, rfl, hnode, hfh, hF, hK⟩ := hrel
        by_cases h0 : 0 < half
        · obtain ⟨he, h2, hnd⟩ := hF.out.nodes h0
          obtain ⟨g1, g2, g3⟩ := hF.out.leafward RR.out h0
          have N := NN.out.kept hK (fun h => h) (fun h => h)
          have hlb := N.lt
          have c4 := N.cell
          have hD := HL.out
          have hL2 := HNL.out
          have pD1 : 2 ^ (D + 1) = 2 * 2 ^ D := by rw [Nat.pow_succ]; omega
          obtain ⟨a2, ha2⟩ : ∃ a2, a2 = 2 * node := ⟨_, rfl⟩
          obtain ⟨a3, ha3⟩ : ∃ a3, a3 = a2 + 1 := ⟨_, rfl⟩
          rw [← ha2] at g1
          rw [← ha2, ← ha3] at g2 g3
          have x1 : a3 < n := by omega
          have x3 : a2 < n := by omega
          obtain ⟨p1, p2, p3⟩ := N.row (i := a2) x3
          obtain ⟨q1, q2, q3⟩ := N.row (i := a3) x1
          have m1 : IntKind.i64.wrap (2 * (node : Int)) = (a2 : Int) := by rw [IntKind.wrap_i64]; omega
          have m2 : IntKind.i64.wrap ((a2 : Int) + 1) = (a3 : Int) := by rw [IntKind.wrap_i64]; omega
          have hbd := hF.out.bounds
          obtain ⟨sl, sr, _⟩ := hF.out.seek.parts RR.out he
          rw [← ha2, ← h2] at sl
          rw [← ha2, ← ha3, ← h2] at sr
          have lk1 := sl.kle
          have lm1 := sl.mle
          have rf1 := sr.fle
          have lf1 := sl.fle
          have rk1 := sr.kle
          have rm1 := sr.mle
          obtain ⟨l, hl⟩ : ∃ l, l = rw rs a2 := ⟨_, rfl⟩
          obtain ⟨r, hr⟩ : ∃ r, r = rw rs a3 := ⟨_, rfl⟩
          rw [← hl] at p1 p2 p3 g1 g2 g3 lk1 lm1 lf1
          rw [← hr] at q1 q2 q3 g2 g3 rf1 rk1 rm1
          have A2 := Lib.hid ha2
          have A3 := Lib.hid ha3
          have G1 := Lib.hid g1
          have G2 := Lib.hid g2
          have G3 := Lib.hid g3
          have HK := Lib.hid hK
          clear g1 g2 g3 N hD hL2 pD1 ha2 ha3 hbd sl sr hl hr hK he h2 hnd
          go_upto_region 7 with fail
          go_cut [9, 10] (fun s9 s10 W => ∃ b1 b2 : Nat, s9 = .pointer (some ⟨b1, 0, none⟩) ∧ s10 = .pointer (some ⟨b2, 0, none⟩) ∧ Blk W b1 (rv l) 91 ∧ Blk W b2 (rv r) 91 ∧ Kept Nil wr W)
          case first =>
            go_region
            all_goals (go_wp2_with fail; go_meet)
            · exact ⟨_, _, rfl, rfl, Blk.drew (Blk.alloc (Blk.new rfl) _), Blk.drew (Blk.new (by simp)), Kept.drew (Kept.alloc (Kept.alloc (Kept.refl _ _) _) _)⟩
            · exact ⟨_, _, rfl, rfl, Blk.drew (Blk.new (by simp)), Blk.drew (Blk.alloc (Blk.new rfl) _), Kept.drew (Kept.alloc (Kept.alloc (Kept.refl _ _) _) _)⟩
          case rest =>
            obtain ⟨b1, b2, rfl, rfl, B1, B2, K1⟩ := hcut
            have u0 := B1.cell 0
            have u1 := B1.cell 1
            have u2 := B1.cell 2
            have v0 := B2.cell 0
            simp only [rv, List.getElem?_cons_zero, List.getElem?_cons_succ] at u0 u1 u2 v0
            have l1 := B1.lt
            have l2 := B2.lt
            have HK1 := Lib.hid (HK.out.trans K1)
            clear p1 p2 p3 q1 q2 q3 m1 m2 c4 x1 x3 hlb K1 B1 B2 rk1 rm1 lf1
            by_cases hm : count ≤ l.m
            · have d3 : decide ((l.m : Int) < (count : Int)) = false := by simp; omega
              have d4 : decide (l.m < count) = false := by simp; omega
              have hnx := G1.out hm
              have NX := Lib.hid hnx
              clear hnx hm
              go_wp2
              go_roundw
              case rel => exact ⟨e + 1, a2, first, half / 2, by have := A2.out; go_num, rfl, by go_num, by have := A2.out; have := NX.out.bounds; have := HL.out; have := HNL.out; rw [Nat.pow_succ] at *; omega, by omega, NX.out, HK1.out⟩
              case measure => simp [intOf]; omega
            · have d3 : decide ((l.m : Int) < (count : Int)) = true := by simp; omega
              have d4 : decide (l.m < count) = true := by simp; omega
              by_cases hs : count ≤ l.k + r.f
              · have d5 : decide ((count : Int) ≤ (l.k : Int) + (r.f : Int)) = true := by simp; omega
                obtain ⟨hkl, hfd⟩ := G2.out (by omega) hs
                have HFD := Lib.hid hfd
                clear hm hs hfd
                go_wp2
                go_ret2
                exact ⟨first + half - l.k, true, by go_num, HFD.out, by omega, HK1.out⟩
              · have d5 : decide ((count : Int) ≤ (l.k : Int) + (r.f : Int)) = false := by simp; omega
                have hnx := G3.out (by omega) (by omega)
                have NX := Lib.hid hnx
                clear hnx hm hs
                go_wp2
                go_roundw
                case rel => exact ⟨e + 1, a3, first + half, half / 2, by have := A2.out; have := A3.out; go_num, by go_num, by go_num, by have := A2.out; have := NX.out.bounds; have := HL.out; have := HNL.out; rw [Nat.pow_succ] at *; omega, by have := NX.out.bounds; have := HL.out; omega, NX.out, HK1.out⟩
                case measure => simp [intOf]; omega
        · have hlf := hF.out.leaf (by omega) hk
          have HLF := Lib.hid hlf
          have HK := Lib.hid hK
          clear hlf hK
          go_wp2
          go_ret2
          exact ⟨first, true, rfl, HLF.out, by omega, HK.out⟩

end Go.Proofs.Ytfoacgdahonapaa
