/- 'join' of the program: the rows over some nodes are made anew, level by level. -/
import Derived.Test.YtfoacgdahonapaaJoin
namespace Go.Proofs.Ytfoacgdahonapaa
open Go.RowKit Abs Tree
set_option linter.unusedVariables false

/-- Behind some rounds of the outer loop: level d is reached. -/
structure JAt (b : Nat → Bool) (D : Nat) (rs : List Rw) (d lo hi : Nat) : Prop where
  dle : d ≤ D
  lo1 : 2 ^ d ≤ lo
  lo2 : lo < 2 ^ (d + 1)
  hi2 : hi < 2 ^ (d + 1)
  le : lo ≤ hi + 1
  len : rs.length = 2 ^ (D + 1)
  upto : Upto b D (rw rs) d lo hi

/-- Within a round: the nodes from lo on up to node are made anew. -/
structure JIn (rs0 rs : List Rw) (lo node half : Nat) : Prop where
  len : rs.length = rs0.length
  done : ∀ m, lo ≤ m → m < node → rw rs m = Tree.joined (rw rs0 (2 * m)) (rw rs0 (2 * m + 1)) half
  rest : ∀ m, (m < lo ∨ node ≤ m) → rw rs m = rw rs0 m

theorem JIn.start (rs : List Rw) (lo half : Nat) : JIn rs rs lo lo half := ⟨rfl, fun m h1 h2 => by omega, fun _ _ => rfl⟩

theorem JIn.next {rs0 rs : List Rw} {lo node half : Nat} (h : JIn rs0 rs lo node half) (hl : lo ≤ node) (hn : 2 * node + 1 < rs0.length) (h0 : 1 ≤ node) :
    JIn rs0 (rs.set node (Tree.joined (rw rs (2 * node)) (rw rs (2 * node + 1)) half)) lo (node + 1) half := by
  have hlen := h.len
  refine ⟨by rw [List.length_set]; exact h.len, fun m h1 h2 => ?_, fun m hm => ?_⟩
  · rw [rw_set (by omega)]
    by_cases e : m = node
    · subst e
      rw [if_pos rfl, h.rest (2 * m) (by omega), h.rest (2 * m + 1) (by omega)]
    · rw [if_neg e]; exact h.done m h1 (by omega)
  · rw [rw_set (by omega), if_neg (by omega)]
    exact h.rest m (by omega)

theorem JAt.next {b : Nat → Bool} {D : Nat} {rs rs' : List Rw} {d lo hi : Nat} (h : JAt b D rs d lo hi) (hlo : 1 < lo) {node : Nat} (hin : JIn rs rs' (lo / 2) node (2 ^ (D - d))) (hnode : hi / 2 < node) (hlast : node ≤ hi / 2 + 1 ∨ node = lo / 2) :
    1 ≤ d ∧ JAt b D rs' (d - 1) (lo / 2) (hi / 2) := by
  have l1 := h.lo1
  have l2 := h.lo2
  have hd : 1 ≤ d := by
    rcases Nat.eq_zero_or_pos d with e | e
    · subst e; simp at l2; omega
    · exact e
  obtain ⟨e, rfl⟩ : ∃ e, d = e + 1 := ⟨d - 1, by omega⟩
  have p1 : 2 ^ (e + 1) = 2 * 2 ^ e := by rw [Nat.pow_succ]; omega
  have p2 : 2 ^ (e + 1 + 1) = 2 * 2 ^ (e + 1) := by rw [Nat.pow_succ]; omega
  have h2 := h.hi2
  have hle := h.le
  have hdl := h.dle
  refine ⟨hd, by omega, by rw [Nat.add_sub_cancel]; omega, by rw [Nat.add_sub_cancel]; omega, by rw [Nat.add_sub_cancel]; omega, by omega, by rw [hin.len]; exact h.len, ?_⟩
  rw [Nat.add_sub_cancel]
  refine h.upto.up (by omega) (fun n h1 h3 => hin.done n h1 (by omega)) (fun n hn => hin.rest n ?_) l1 h2
  rcases hn with hn | hn
  · exact .inl hn
  · right; rcases hlast with h4 | h4 <;> omega

theorem JAt.bounds {b : Nat → Bool} {D : Nat} {rs : List Rw} {d lo hi : Nat} (h : JAt b D rs d lo hi) {m : Nat} (hm1 : 2 ^ d ≤ m) (hm2 : m < 2 ^ (d + 1)) : (rw rs m).f ≤ 2 ^ D ∧ (rw rs m).k ≤ 2 ^ D ∧ (rw rs m).m ≤ 2 ^ D := by
  have s := h.upto.here d (Nat.le_refl _) h.dle m hm1 hm2
  unfold Ok at s
  have p : 2 ^ (D - d) ≤ 2 ^ D := Nat.pow_le_pow_right (by omega) (by omega)
  have a1 := s.fle
  have a2 := s.kle
  have a3 := s.mle
  exact ⟨by omega, by omega, by omega⟩

/-- What a round reads, where another row was written. -/
theorem keep7 {w2 : World} {mb : Nat} {vs : List Value} {g n cap : Nat} {rs : List Rw} (N : Nodes w2 mb vs g n cap rs) {node a2 a3 : Nat} (x2 : node < n) (h2 : a2 < n) (h3 : a3 < n) (n2 : a2 ≠ node) (n3 : a3 ≠ node) (j : Rw) {l r : Rw} (hl : l = rw rs a2) (hr : r = rw rs a3) :
    (((w2.setCell ⟨g, node * 3, none⟩ (.int .i64 j.f)).setCell ⟨g, node * 3 + 1, none⟩ (.int .i64 j.k)).setCell ⟨g, node * 3 + 2, none⟩ (.int .i64 j.m)).cell? ⟨mb, 4, none⟩ = some (.slice (some ⟨g, 0, none⟩) n cap) ∧
    (((w2.setCell ⟨g, node * 3, none⟩ (.int .i64 j.f)).setCell ⟨g, node * 3 + 1, none⟩ (.int .i64 j.k)).setCell ⟨g, node * 3 + 2, none⟩ (.int .i64 j.m)).cell? ⟨g, a2 * 3, none⟩ = some (.int .i64 l.f) ∧
    (((w2.setCell ⟨g, node * 3, none⟩ (.int .i64 j.f)).setCell ⟨g, node * 3 + 1, none⟩ (.int .i64 j.k)).setCell ⟨g, node * 3 + 2, none⟩ (.int .i64 j.m)).cell? ⟨g, a2 * 3 + 1, none⟩ = some (.int .i64 l.k) ∧
    (((w2.setCell ⟨g, node * 3, none⟩ (.int .i64 j.f)).setCell ⟨g, node * 3 + 1, none⟩ (.int .i64 j.k)).setCell ⟨g, node * 3 + 2, none⟩ (.int .i64 j.m)).cell? ⟨g, a2 * 3 + 2, none⟩ = some (.int .i64 l.m) ∧
    (((w2.setCell ⟨g, node * 3, none⟩ (.int .i64 j.f)).setCell ⟨g, node * 3 + 1, none⟩ (.int .i64 j.k)).setCell ⟨g, node * 3 + 2, none⟩ (.int .i64 j.m)).cell? ⟨g, a3 * 3, none⟩ = some (.int .i64 r.f) ∧
    (((w2.setCell ⟨g, node * 3, none⟩ (.int .i64 j.f)).setCell ⟨g, node * 3 + 1, none⟩ (.int .i64 j.k)).setCell ⟨g, node * 3 + 2, none⟩ (.int .i64 j.m)).cell? ⟨g, a3 * 3 + 1, none⟩ = some (.int .i64 r.k) ∧
    (((w2.setCell ⟨g, node * 3, none⟩ (.int .i64 j.f)).setCell ⟨g, node * 3 + 1, none⟩ (.int .i64 j.k)).setCell ⟨g, node * 3 + 2, none⟩ (.int .i64 j.m)).cell? ⟨g, a3 * 3 + 2, none⟩ = some (.int .i64 r.m) := by
  have NS := N.set x2 j
  have hlen := N.len
  have e2 : rw (rs.set node j) a2 = l := by rw [rw_set (by omega), if_neg n2, hl]
  have e3 : rw (rs.set node j) a3 = r := by rw [rw_set (by omega), if_neg n3, hr]
  obtain ⟨p1, p2, p3⟩ := NS.row h2
  obtain ⟨q1, q2, q3⟩ := NS.row h3
  rw [e2] at p1 p2 p3
  rw [e3] at q1 q2 q3
  exact ⟨NS.cell, p1, p2, p3, q1, q2, q3⟩

set_option maxRecDepth 100000 in
set_option maxHeartbeats 1600000 in
theorem st_join {w : World} {mb : Nat} {vs : List Value} {g n cap : Nat} {rs : List Rw} {b : Nat → Bool} {D low high : Nat} (h : Nodes w mb vs g n cap rs) (hJ : JAt b D rs D low high) (hn : n ≤ 400000) :
    Calls Try.prog 47 #[.pointer (some ⟨mb, 4, none⟩), .int .i64 (low : Int), .int .i64 (high : Int)] w fun e w' => e = .returned (.tuple #[]) ∧
      ∃ rs', Nodes w' mb vs g n cap rs' ∧ rs'.length = rs.length ∧ Right b D (rw rs') ∧ Kept (· = g) w w' := by
  have hp : 2 ^ D ≤ 200000 := by
    have h1 := hJ.len
    have h2 := h.len
    rw [Nat.pow_succ] at h1
    omega
  obtain ⟨H, hH⟩ : ∃ H, H = Nodes w mb vs g n cap rs := ⟨_, rfl⟩
  have NH := Lib.hid h
  have JH := Lib.hid hJ
  have PH := Lib.hid hp
  clear h hJ hp hH H
  go_enter Try.func47, Try.ntmps47
  go_wp2_with fail
  go_loopw [1, 2, 6] (fun s1 s2 s6 W => ∃ d lo hi half : Nat, s1 = .int .i64 (lo : Int) ∧ s2 = .int .i64 (hi : Int) ∧ s6 = .int .i64 (half : Int) ∧ lo ≤ 400000 ∧ hi ≤ 400000 ∧ half ≤ 200000 ∧ Hid (half = 2 ^ (D - d)) ∧ ∃ rs', Hid (JAt b D rs' d lo hi ∧ Nodes W mb vs g n cap rs' ∧ Kept (· = g) w W)) (fun s1 _ _ _ => (intOf s1).toNat)
  case atStart =>
    have hJ := JH.out
    have h1 := hJ.lo2
    have h2 := hJ.hi2
    have h3 := hJ.len
    have h4 := NH.out.len
    refine ⟨D, low, high, 1, rfl, rfl, rfl, by omega, by omega, by omega, by rw [Nat.sub_self]; exact rfl, rs, hJ, NH.out, Kept.refl _ _⟩
  case round =>
    obtain ⟨d, lo, hi, half, rfl, rfl, rfl, hlo, hhi, hhalf, hHf, rs1, hM⟩ := hrel
    by_cases h1 : 1 < lo
    · obtain ⟨l2, hl2⟩ : ∃ l2, l2 = lo / 2 := ⟨_, rfl⟩
      obtain ⟨h2, hh2⟩ : ∃ h2, h2 = hi / 2 := ⟨_, rfl⟩
      have qlo : (lo : Int).tdiv 2 = (l2 : Int) := by rw [Int.tdiv_eq_ediv_of_nonneg (by omega)]; omega
      have qhi : (hi : Int).tdiv 2 = (h2 : Int) := by rw [Int.tdiv_eq_ediv_of_nonneg (by omega)]; omega
      have b1 : l2 < lo := by omega
      have b2 : h2 ≤ 200000 := by omega
      have b3 : l2 ≤ 200000 := by omega
      have b4 : 1 ≤ l2 := by omega
      have b5 : h2 < 2 ^ d ∧ 2 ^ d ≤ 2 * l2 ∧ l2 ≤ h2 + 1 := by
        have q1 := hM.out.1.lo1
        have q2 := hM.out.1.hi2
        have q3 := hM.out.1.le
        rw [Nat.pow_succ] at q2
        refine ⟨by omega, ?_, by omega⟩
        rcases Nat.eq_zero_or_pos d with e | e
        · subst e; simp; omega
        · obtain ⟨e', rfl⟩ : ∃ e', d = e' + 1 := ⟨d - 1, by omega⟩
          rw [Nat.pow_succ] at q1 ⊢; omega
      have L2 := Lib.hid hl2
      have H2 := Lib.hid hh2
      have B5 := Lib.hid b5
      have d9 : decide ((1 : Int) < (lo : Int)) = true := by simp; omega
      have H1 := Lib.hid h1
      clear hl2 hh2 b5 h1
      go_wp2_with fail
      go_loopw [7] (fun s7 W => ∃ node : Nat, s7 = .int .i64 (node : Int) ∧ l2 ≤ node ∧ (node ≤ h2 + 1) ∧ ∃ rs2, Hid (JIn rs1 rs2 l2 node half ∧ Nodes W mb vs g n cap rs2 ∧ Kept (· = g) w W)) (fun s7 _ => h2 + 1 - (intOf s7).toNat)
      case atStart => exact ⟨l2, rfl, Nat.le_refl _, B5.out.2.2, rs1, JIn.start _ _ _, hM.out.2.1, hM.out.2.2⟩
      case round =>
        obtain ⟨node, rfl, n1, n2, rs2, hI⟩ := hrel
        by_cases h3 : node ≤ h2
        · have I := hI.out.1
          have N := hI.out.2.1
          have lb := N.lt
          have hlen := N.len
          have hc4 := N.cell
          have hb5 := B5.out
          have hJ := hM.out.1
          have hdl := hJ.dle
          have hlen1 := hJ.len
          have hil := I.len
          obtain ⟨a2, ha2⟩ : ∃ a2, a2 = 2 * node := ⟨_, rfl⟩
          obtain ⟨a3, ha3⟩ : ∃ a3, a3 = a2 + 1 := ⟨_, rfl⟩
          have pd : 2 ^ d ≤ 2 ^ D := Nat.pow_le_pow_right (by omega) hdl
          have pd1 : 2 ^ (d + 1) = 2 * 2 ^ d := by rw [Nat.pow_succ]; omega
          have pD1 : 2 ^ (D + 1) = 2 * 2 ^ D := by rw [Nat.pow_succ]; omega
          have x1 : a3 < n := by omega
          have x2 : node < n := by omega
          have x3 : a2 < n := by omega
          obtain ⟨p1, p2, p3⟩ := N.row (i := a2) (by omega)
          obtain ⟨q1, q2, q3⟩ := N.row (i := a3) (by omega)
          have e1 : rw rs2 a2 = rw rs1 a2 := I.rest _ (by omega)
          have e2 : rw rs2 a3 = rw rs1 a3 := I.rest _ (by omega)
          have bl := hJ.bounds (m := a2) (by omega) (by omega)
          have br := hJ.bounds (m := a3) (by omega) (by omega)
          rw [← e1] at bl
          rw [← e2] at br
          have hp := PH.out
          have m1 : IntKind.i64.wrap (2 * (node : Int)) = (a2 : Int) := by rw [IntKind.wrap_i64]; omega
          have m2 : IntKind.i64.wrap ((a2 : Int) + 1) = (a3 : Int) := by rw [IntKind.wrap_i64]; omega
          have f1 := N.own.frozenAt (node * 3)
          have f2 := N.own.frozenAt (node * 3 + 1)
          have f3 := N.own.frozenAt (node * 3 + 2)
          have hnx := I.next n1 (by omega) (by omega)
          rw [← ha2, ← ha3] at hnx
          obtain ⟨t1, t2, t3⟩ := N.row (i := node) x2
          obtain ⟨l, hl⟩ : ∃ l, l = rw rs2 a2 := ⟨_, rfl⟩
          obtain ⟨r, hr⟩ : ∃ r, r = rw rs2 a3 := ⟨_, rfl⟩
          rw [← hl] at p1 p2 p3 bl hnx
          rw [← hr] at q1 q2 q3 br hnx
          have jn : ∀ W, Calls Try.prog 50 #[.agg (rv l).toArray, .agg (rv r).toArray, .int .i64 (half : Int)] W fun e w' => e = .returned (.agg (rv (Tree.joined l r half)).toArray) ∧ Kept Nil W w' := fun W => st_joined W l r half (by omega) (by omega) (by omega)
          obtain ⟨j, hj⟩ : ∃ j, j = Tree.joined l r half := ⟨_, rfl⟩
          rw [← hj] at jn hnx
          simp only [rv] at jn
          have HL := Lib.hid hl
          have HR := Lib.hid hr
          have HJ := Lib.hid hj
          have JN := Lib.hid jn
          have ne2 : a2 ≠ node := by omega
          have ne3 : a3 ≠ node := by omega
          have NX := Lib.hid hnx
          have NN := Lib.hid N
          clear e1 e2 hlen hlen1 hil hb5 hJ hdl pd pd1 pD1 jn hl hr hj I ha2 ha3 bl br hp hnx N
          go_upto_block 3 with fail
          go_cut [] (fun W => ∃ rs3, Hid (JIn rs1 rs3 l2 (node + 1) half ∧ Nodes W mb vs g n cap rs3 ∧ Kept (· = g) w W))
          case first =>
            go_wp2_with fail
            go_region_held3 (fun W => W.cell? ⟨mb, 4, none⟩ = some (.slice (some ⟨g, 0, none⟩) n cap) ∧ W.cell? ⟨g, a2 * 3, none⟩ = some (.int .i64 l.f) ∧ W.cell? ⟨g, a2 * 3 + 1, none⟩ = some (.int .i64 l.k) ∧ W.cell? ⟨g, a2 * 3 + 2, none⟩ = some (.int .i64 l.m) ∧
                W.cell? ⟨g, a3 * 3, none⟩ = some (.int .i64 r.f) ∧ W.cell? ⟨g, a3 * 3 + 1, none⟩ = some (.int .i64 r.k) ∧ W.cell? ⟨g, a3 * 3 + 2, none⟩ = some (.int .i64 r.m))
              (first | exact keep7 NN2.out x2 x3 x1 ne2 ne3 j HL.out HR.out | exact ⟨z0, z1, z2, z3, z4, z5, z6⟩ | go_keep | assumption)
              (first | (go_at_call 50; refine (JN.out _).mono ?_; rintro e w2 ⟨rfl, k2⟩; have kk : Kept Nil wr w2 := Kept.trans (Kept.drew (Kept.refl _ _)) k2; have z0 := kk.cell hc4 (fun h => h); have z1 := kk.cell p1 (fun h => h); have z2 := kk.cell p2 (fun h => h); have z3 := kk.cell p3 (fun h => h); have z4 := kk.cell q1 (fun h => h); have z5 := kk.cell q2 (fun h => h); have z6 := kk.cell q3 (fun h => h); have N2 := NN.out.kept kk (fun h => h) (fun h => h); have y1 := N2.row x2; have y4 := N2.own.frozenAt (node * 3); have y5 := N2.own.frozenAt (node * 3 + 1); have y6 := N2.own.frozenAt (node * 3 + 2); obtain ⟨y1, y2, y3⟩ := y1; have NN2 := Lib.hid N2; clear N2))
            rename_i hHeld
            clear hHeld y1 y2 y3 y4 y5 y6 z0 z1 z2 z3 z4 z5 z6 p1 p2 p3 q1 q2 q3 hc4 f1 f2 f3 t1 t2 t3
            have NS := NN2.out.set x2 j
            have KS : Kept (· = g) w (((w2.setCell ⟨g, node * 3, none⟩ (.int .i64 j.f)).setCell ⟨g, node * 3 + 1, none⟩ (.int .i64 j.k)).setCell ⟨g, node * 3 + 2, none⟩ (.int .i64 j.m)) :=
              Nodes.kset (hI.out.2.2.trans kk.wide) g rfl _ _ _ _ _ _
            have HN := Lib.hid NS
            have HK := Lib.hid KS
            clear NS KS
            go_wp2
            go_meet
            exact ⟨rs2.set node j, NX.out, HN.out, HK.out⟩
          case rest =>
            obtain ⟨rs3, hI3⟩ := hcut
            clear p1 p2 p3 q1 q2 q3 hc4 f1 f2 f3 t1 t2 t3
            go_wp2
            go_roundw
            case rel => exact ⟨node + 1, by go_num, by omega, by omega, rs3, hI3⟩
            case measure => simp [intOf]; omega
        · have hd := hM.out.1.next H1.out (by rw [← L2.out, ← hHf.out]; exact hI.out.1) (by rw [← H2.out]; omega) (by rw [← H2.out, ← L2.out]; omega)
          have hb5 := B5.out
          have ehalf : half * 2 = 2 ^ (D - (d - 1)) := by
            rw [hHf.out, ← Nat.pow_succ]
            congr 1
            have := hM.out.1.dle
            have := hd.1
            omega
          have ehle : half * 2 ≤ 200000 := by
            rw [ehalf]
            have : 2 ^ (D - (d - 1)) ≤ 2 ^ D := Nat.pow_le_pow_right (by omega) (by omega)
            have := PH.out
            omega
          rw [← L2.out, ← H2.out] at hd
          have HD := Lib.hid hd
          have EH := Lib.hid ehalf
          clear hd hb5 ehalf
          go_wp2
          go_roundw
          case rel => exact ⟨d - 1, l2, h2, half * 2, rfl, rfl, by go_num, by omega, by omega, by omega, EH.out, rs2, HD.out.2, hI.out.2.1, hI.out.2.2⟩
          case measure => simp [intOf]; omega
    · go_wp2
      refine bodyPost_end (v := .tuple #[]) (by simp [results, go_sem]) rfl ?_
      have hJ := hM.out.1
      have hd0 : d = 0 := by
        rcases Nat.eq_zero_or_pos d with e | e
        · exact e
        · have := hJ.lo1
          obtain ⟨e', rfl⟩ : ∃ e', d = e' + 1 := ⟨d - 1, by omega⟩
          rw [Nat.pow_succ] at this
          have := Nat.two_pow_pos e'
          omega
      subst hd0
      exact ⟨rfl, rs1, hM.out.2.1, by rw [hJ.len, JH.out.len], hJ.upto.right, hM.out.2.2⟩
end Go.Proofs.Ytfoacgdahonapaa
