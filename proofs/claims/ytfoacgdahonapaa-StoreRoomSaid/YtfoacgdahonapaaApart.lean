/- apart and same: no two cells have a word in common; the store has a cell as it is remembered. -/
import Derived.Test.YtfoacgdahonapaaMain
namespace Go.Proofs.Ytfoacgdahonapaa
open Go.RowKit Abs
set_option linter.unusedVariables false

set_option maxRecDepth 100000 in
set_option maxHeartbeats 1600000 in
theorem apart_any (w : World) (v : Value) (ca : Option Addr) (n cap : Nat) (cs : List (ACell × Nat)) (hn : Hid (cs.length = n)) (hle : n ≤ 200)
    (hown : w.ownsRow 0 50 3 (.slice ca n cap) n (cs.flatMap cellVals))
    (hfar : Hid ((cs.map (·.1)).Pairwise ACell.far)) (hsm : Hid (∀ x ∈ cs, x.1.addr ≤ 1000000 ∧ x.1.ws.length ≤ 4097)) :
    Calls Try.prog 28 #[.slice ca n cap] w fun e w' => e = .returned (.bool true) ∧ Kept Nil w w' := by
  go_enter Try.func28, Try.ntmps28
  go_wp2_with fail
  go_loopw [3] (fun s3 W => ∃ i : Nat, i ≤ n ∧ s3 = .int .i64 (i : Int) ∧ Kept Nil w W) (fun s3 _ => n - (intOf s3).toNat)
  case atStart => exact ⟨0, Nat.zero_le _, rfl, Kept.refl _ _⟩
  case round =>
    obtain ⟨i, hi, rfl, hK⟩ := hrel
    by_cases hlt : i < n
    · go_wp2_with fail
      go_loopw [4] (fun s4 W => ∃ k : Nat, k ≤ i ∧ s4 = .int .i64 (k : Int) ∧ Kept Nil w W) (fun s4 _ => i - (intOf s4).toNat)
      case atStart => exact ⟨0, Nat.zero_le _, rfl, hK⟩
      case round =>
        clear hK
        obtain ⟨k, hk, rfl, hK⟩ := hrel
        by_cases hkl : k < i
        · obtain ⟨g, cap', hq, hg, _, _, hcells⟩ := row_some hown (by omega)
          have hca : ca = some ⟨g, 0, none⟩ := by simp only [Value.slice.injEq, true_and] at hq; exact hq.1
          obtain ⟨x, hx⟩ : ∃ x, cs[i]? = some x := ⟨cs[i]'(by rw [hn.out]; exact hlt), List.getElem?_eq_getElem _⟩
          obtain ⟨y, hy⟩ : ∃ y, cs[k]? = some y := ⟨cs[k]'(by rw [hn.out]; omega), List.getElem?_eq_getElem _⟩
          have px1 := hK.cell ((hcells (i * 3 + 1) (by omega)).trans ((flat_get cs i 1 (by omega)).trans (by rw [hx]; rfl))) id
          have px2 := hK.cell ((hcells (i * 3 + 2) (by omega)).trans ((flat_get cs i 2 (by omega)).trans (by rw [hx]; rfl))) id
          have py1 := hK.cell ((hcells (k * 3 + 1) (by omega)).trans ((flat_get cs k 1 (by omega)).trans (by rw [hy]; rfl))) id
          have py2 := hK.cell ((hcells (k * 3 + 2) (by omega)).trans ((flat_get cs k 2 (by omega)).trans (by rw [hy]; rfl))) id
          have hf : ACell.far y.1 x.1 := by
            have := List.pairwise_iff_getElem.1 hfar.out k i (by simp only [List.length_map, hn.out]; omega) (by simp only [List.length_map, hn.out]; omega) hkl
            simp only [List.getElem_map] at this
            obtain ⟨h1, h2⟩ := List.getElem?_eq_some_iff.1 hx
            obtain ⟨h3, h4⟩ := List.getElem?_eq_some_iff.1 hy
            rw [h2, h4] at this
            exact this
          have sx := hsm.out x (List.mem_of_getElem? hx)
          have sy := hsm.out y (List.mem_of_getElem? hy)
          unfold ACell.far at hf
          obtain ⟨xa, xl, xb, hxa⟩ : ∃ xa xl xb, xa = x.1.addr ∧ xl = x.1.ws.length ∧ xb = x.2 := ⟨_, _, _, rfl, rfl, rfl⟩
          obtain ⟨ya, yl, yb, hya⟩ : ∃ ya yl yb, ya = y.1.addr ∧ yl = y.1.ws.length ∧ yb = y.2 := ⟨_, _, _, rfl, rfl, rfl⟩
          rw [← hxa.1, ← hxa.2.1, ← hya.1, ← hya.2.1] at hf
          rw [← hxa.1, ← hxa.2.1] at sx
          rw [← hya.1, ← hya.2.1] at sy
          rw [← hxa.1] at px1
          rw [← hxa.2.1, ← hxa.2.2] at px2
          rw [← hya.1] at py1
          rw [← hya.2.1, ← hya.2.2] at py2
          obtain ⟨sx1, sx2⟩ := sx
          obtain ⟨sy1, sy2⟩ := sy
          have HC := Lib.hid hca
          have lgr := World.block_lt_of_cell? _ _ px1
          simp only at lgr
          clear hxa hya hx hy hcells hq
          subst hca
          have b1 : (i : Int) < n := by omega
          have b2 : (k : Int) < n := by omega
          have b3 : (0 : Int) ≤ i := by omega
          have b4 : (0 : Int) ≤ k := by omega
          by_cases ht : xa < ya + yl
          · have hd : decide ((xa : Int) < (ya : Int) + (yl : Int)) = true := by simp; omega
            have hd2 : decide ((ya : Int) < (xa : Int) + (xl : Int)) = false := by simp; omega
            have ht2 : (xa : Int) < (ya : Int) + (yl : Int) := by omega
            have HF := Lib.hid hf
            clear hf
            go_wp2_with fail
            go_quiet (fail)
            go_wp2
            go_roundw
            case rel => exact ⟨k + 1, by omega, by go_num, hK.drewN _⟩
            case measure => simp [intOf]; omega
          · have hd : decide ((xa : Int) < (ya : Int) + (yl : Int)) = false := by simp; omega
            have HF := Lib.hid hf
            clear hf
            go_wp2_with fail
            go_quiet (fail)
            go_wp2
            go_roundw
            case rel => exact ⟨k + 1, by omega, by go_num, hK.drewN _⟩
            case measure => simp [intOf]; omega
        · go_wp2
          go_roundw
          case rel => exact ⟨i + 1, by omega, by go_num, hK⟩
          case measure => simp [intOf]; omega
    · go_wp2
      go_ret
      exact ⟨rfl, hK⟩
end Go.Proofs.Ytfoacgdahonapaa
