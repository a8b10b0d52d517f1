/- room: how many pages a region's cells may need. -/
import Derived.Test.YtfoacgdahonapaaMain
import Derived.Test.YtfoacgdahonapaaRoomAbs
namespace Go.Proofs.Ytfoacgdahonapaa
open Go.RowKit Abs
set_option linter.unusedVariables false

theorem sumBy_bound (l : List ACell) (r : Nat) (g : ACell → Nat) (k : Nat) (h : ∀ c ∈ l, g c ≤ k) : sumBy l r g ≤ k * l.length := by
  induction l with
  | nil => simp [sumBy]
  | cons c l ih =>
    rw [show c :: l = [c] ++ l from rfl, sumBy_append, sumBy_one, List.length_append, Nat.mul_add]
    have := h c List.mem_cons_self
    have := ih (fun d hd => h d (List.mem_cons_of_mem _ hd))
    simp only [List.length_singleton]
    split <;> omega

theorem anyOf_append (l k : List ACell) (r : Nat) : anyOf (l ++ k) r = (anyOf l r || anyOf k r) := by unfold anyOf; rw [List.any_append]

set_option maxRecDepth 100000 in
set_option maxHeartbeats 1600000 in
theorem room_any (w : World) (ca : Option Addr) (n cap : Nat) (cs : List (ACell × Nat)) (reg : Nat) (hreg : reg ≤ 1000) (hn : Hid (cs.length = n)) (hle : n ≤ 200)
    (hown : w.ownsRow 0 50 3 (.slice ca n cap) n (cs.flatMap cellVals)) (hsm : Hid (∀ x ∈ cs, x.1.reg ≤ 1000 ∧ x.1.ws.length ≤ 4097)) :
    Calls Try.prog 30 #[.slice ca n cap, .int .i64 (reg : Int)] w fun e w' => e = .returned (.int .i64 (roomOf (cs.map (·.1)) reg : Int)) ∧ w' = w := by
  have bS : ∀ k, sumBy ((cs.take k).map (·.1)) reg smallW ≤ 16 * n := by
    intro k
    have h1 := sumBy_bound ((cs.take k).map (·.1)) reg smallW 16 (fun c _ => by unfold smallW; split <;> omega)
    have h2 : ((cs.take k).map (·.1)).length ≤ n := by rw [List.length_map, List.length_take, hn.out]; omega
    exact Nat.le_trans h1 (Nat.mul_le_mul_left _ h2)
  have bL : ∀ k, sumBy ((cs.take k).map (·.1)) reg largeP ≤ 257 * n := by
    intro k
    have h1 := sumBy_bound ((cs.take k).map (·.1)) reg largeP 257 (fun c hc => by
      obtain ⟨x, hx, rfl⟩ := List.mem_map.1 hc
      have := (hsm.out x (List.mem_of_mem_take hx)).2
      unfold largeP; split <;> omega)
    have h2 : ((cs.take k).map (·.1)).length ≤ n := by rw [List.length_map, List.length_take, hn.out]; omega
    exact Nat.le_trans h1 (Nat.mul_le_mul_left _ h2)
  have BS := Lib.hid bS
  have BL := Lib.hid bL
  clear bS bL
  go_enter Try.func30, Try.ntmps30
  go_wp2_with fail
  go_loop [5, 6, 7, 8] (fun s5 s6 s7 s8 => ∃ k : Nat, k ≤ n ∧ s8 = .int .i64 (k : Int) ∧ s5 = .int .i64 (sumBy ((cs.take k).map (·.1)) reg smallW : Int) ∧ s6 = .int .i64 (sumBy ((cs.take k).map (·.1)) reg largeP : Int) ∧ s7 = .bool (anyOf ((cs.take k).map (·.1)) reg)) (fun _ _ _ s8 => n - (intOf s8).toNat)
  case atStart => exact ⟨0, Nat.zero_le _, rfl, by simp [sumBy], by simp [sumBy], by simp [anyOf]⟩
  case round =>
    obtain ⟨k, hk, rfl, rfl, rfl, rfl⟩ := hrel
    have b1 := BS.out k
    have b2 := BL.out k
    by_cases hlt : k < n
    · obtain ⟨g, cap', hq, hg, _, _, hcells⟩ := row_some hown (by omega)
      have hca : ca = some ⟨g, 0, none⟩ := by simp only [Value.slice.injEq, true_and] at hq; exact hq.1
      obtain ⟨x, hx⟩ : ∃ x, cs[k]? = some x := ⟨cs[k]'(by rw [hn.out]; exact hlt), List.getElem?_eq_getElem _⟩
      have px0 : w.cell? ⟨g, k * 3, none⟩ = some (.int .i64 (x.1.reg : Int)) := (hcells (k * 3 + 0) (by omega)).trans ((flat_get cs k 0 (by omega)).trans (by rw [hx]; rfl))
      have px2 : w.cell? ⟨g, k * 3 + 2, none⟩ = some (.slice (some ⟨x.2, 0, none⟩) x.1.ws.length x.1.ws.length) := (hcells (k * 3 + 2) (by omega)).trans ((flat_get cs k 2 (by omega)).trans (by rw [hx]; rfl))
      obtain ⟨sx1, sx2⟩ := hsm.out x (List.mem_of_getElem? hx)
      have ht : (cs.take (k + 1)).map (·.1) = (cs.take k).map (·.1) ++ [x.1] := by
        obtain ⟨h1, rfl⟩ := List.getElem?_eq_some_iff.1 hx
        rw [List.take_succ_eq_append_getElem h1, List.map_append]; rfl
      have e1 : sumBy ((cs.take (k + 1)).map (·.1)) reg smallW = sumBy ((cs.take k).map (·.1)) reg smallW + if x.1.reg = reg then smallW x.1 else 0 := by rw [ht, sumBy_append, sumBy_one]
      have e2 : sumBy ((cs.take (k + 1)).map (·.1)) reg largeP = sumBy ((cs.take k).map (·.1)) reg largeP + if x.1.reg = reg then largeP x.1 else 0 := by rw [ht, sumBy_append, sumBy_one]
      have e3 : anyOf ((cs.take (k + 1)).map (·.1)) reg = (anyOf ((cs.take k).map (·.1)) reg || (decide (x.1.reg = reg) && decide (x.1.ws.length ≤ 16))) := by rw [ht, anyOf_append]; simp [anyOf]
      rw [show smallW x.1 = if x.1.ws.length ≤ 16 then x.1.ws.length else 0 from rfl] at e1
      rw [show largeP x.1 = if x.1.ws.length ≤ 16 then 0 else (x.1.ws.length + 15) / 16 from rfl] at e2
      obtain ⟨xr, xl, xb, hxa⟩ : ∃ xr xl xb, xr = x.1.reg ∧ xl = x.1.ws.length ∧ xb = x.2 := ⟨_, _, _, rfl, rfl, rfl⟩
      rw [← hxa.1] at px0 e1 e2 e3 sx1
      rw [← hxa.2.1, ← hxa.2.2] at px2
      rw [← hxa.2.1] at e1 e2 e3 sx2
      have E := Lib.hid (And.intro e1 (And.intro e2 e3))
      clear e1 e2 e3 hxa ht hx hcells hq
      subst hca
      obtain ⟨S0, hS0⟩ : ∃ S0, S0 = sumBy ((cs.take k).map (·.1)) reg smallW := ⟨_, rfl⟩
      obtain ⟨L0, hL0⟩ : ∃ L0, L0 = sumBy ((cs.take k).map (·.1)) reg largeP := ⟨_, rfl⟩
      obtain ⟨A0, hA0⟩ : ∃ A0, A0 = anyOf ((cs.take k).map (·.1)) reg := ⟨_, rfl⟩
      have E := E.out
      rw [← hS0, ← hL0, ← hA0] at E
      rw [← hS0] at b1 ⊢
      rw [← hL0] at b2 ⊢
      rw [← hA0]
      have EE := Lib.hid E
      clear E hS0 hL0 hA0
      by_cases hr : xr = reg
      · have ht : ((xr : Int) == (reg : Int)) = true := by subst hr; simp
        have HR := Lib.hid hr
        clear hr
        by_cases h16 : 16 < xl
        · have hd : decide ((16 : Int) < (xl : Int)) = true := by simp; omega
          go_wp2
          go_round
          case rel =>
            obtain ⟨e1, e2, e3⟩ := EE.out
            rw [if_pos HR.out, if_neg (by omega)] at e1 e2
            refine ⟨k + 1, by omega, by go_num, by rw [e1]; go_num, by rw [e2]; go_num, ?_⟩
            rw [e3]
            simp [HR.out]
            intro h; omega
          case measure => simp [intOf]; omega
        · have hd : decide ((16 : Int) < (xl : Int)) = false := by simp; omega
          go_wp2
          go_round
          case rel =>
            obtain ⟨e1, e2, e3⟩ := EE.out
            rw [if_pos HR.out, if_pos (by omega)] at e1 e2
            refine ⟨k + 1, by omega, by go_num, by rw [e1]; go_num, by rw [e2]; go_num, ?_⟩
            rw [e3]
            simp [HR.out]
            right; omega
          case measure => simp [intOf]; omega
      · have ht : ((xr : Int) == (reg : Int)) = false := by rw [beq_eq_false_iff_ne]; omega
        have HR := Lib.hid hr
        clear hr
        go_wp2
        go_round
        case rel =>
          obtain ⟨e1, e2, e3⟩ := EE.out
          rw [if_neg HR.out] at e1 e2
          refine ⟨k + 1, by omega, by go_num, by rw [e1]; go_num, by rw [e2]; go_num, ?_⟩
          rw [e3]
          simp [HR.out]
        case measure => simp [intOf]; omega
    · have hall : cs.take k = cs := List.take_of_length_le (by rw [hn.out]; omega)
      rw [hall]
      rw [hall] at b1 b2
      have hro : roomOf (cs.map (·.1)) reg = if anyOf (cs.map (·.1)) reg then 2 * sumBy (cs.map (·.1)) reg smallW / 16 + 1 + sumBy (cs.map (·.1)) reg largeP else sumBy (cs.map (·.1)) reg largeP := rfl
      have HRO := Lib.hid hro
      clear hall hro
      cases hA : anyOf (cs.map (·.1)) reg
      · have HA := Lib.hid hA
        clear hA
        go_wp2
        go_ret
        refine ⟨?_, rfl⟩
        rw [HRO.out, HA.out]; rfl
      · have HA := Lib.hid hA
        clear hA
        go_wp2
        go_ret
        refine ⟨?_, rfl⟩
        rw [HRO.out, HA.out]
        simp only [if_true]
        congr 2
end Go.Proofs.Ytfoacgdahonapaa
