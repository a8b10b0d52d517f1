/- same: the store has a cell as it is remembered. -/
import Derived.Test.YtfoacgdahonapaaMain
namespace Go.Proofs.Ytfoacgdahonapaa
open Go.RowKit Abs
set_option linter.unusedVariables false

theorem got_out {s : ASt} (g : s.Good) {c : ACell} (hc : c ∈ s.cells) (f : Int) (hf : ¬ (0 ≤ f ∧ f < c.ws.length)) : s.got c.reg c.addr f = 0 := by
  unfold ASt.got
  rw [asked_cell g hc, if_neg hf, if_neg (by omega)]

set_option maxRecDepth 100000 in
set_option maxHeartbeats 1600000 in
theorem same_any {SA : World → Addr → ASt → (Nat → Prop) → Prop} (L : StoreLaws SA) {w : World} {sp : Addr} {s : ASt} {F : Nat → Prop} (hSA : SA w sp s F) (hG : s.Good) (hW : s.Within 200) {c : ACell} (hc : c ∈ s.cells) (b : Nat)
    (hb : Blk w b (ints c.ws) 2) :
    Calls Try.prog 29 #[.pointer (some sp), .agg #[.int .i64 (c.reg : Int), .int .i64 (c.addr : Int), .slice (some ⟨b, 0, none⟩) c.ws.length c.ws.length]] w fun e w' => e = .returned (.bool true) ∧ Kept Nil w w' := by
  have hlen := hW.wide c hc
  have hr := hG.lt c.reg (hG.reg c hc)
  have hm := hW.many
  have hpos := hG.pos c hc
  have ha2 := (List.getElem?_eq_some_iff.1 (hG.paged c hc c.addr (Nat.le_refl _) (by omega))).1
  have ho := hW.owner
  have ir : I64 (c.reg : Int) := ⟨by omega, by omega⟩
  have ia : I64 (c.addr : Int) := ⟨by omega, by omega⟩
  obtain ⟨reg, addr, n, hreg⟩ : ∃ (reg addr n : Nat), reg = c.reg ∧ addr = c.addr ∧ n = c.ws.length := ⟨_, _, _, rfl, rfl, rfl⟩
  obtain ⟨h1, h2, h3⟩ := hreg
  rw [← h1] at ir hr ⊢
  rw [← h2] at ia ha2 ⊢
  rw [← h3] at hlen hpos ⊢
  have H1 := Lib.hid h1
  have H2 := Lib.hid h2
  have H3 := Lib.hid h3
  clear h1 h2 h3
  go_enter Try.func29, Try.ntmps29
  go_wp2_with fail
  obtain ⟨cb, hcb⟩ : ∃ cb, cb = w.heap.size := ⟨_, rfl⟩
  rw [← hcb]
  have B0 : Blk (w.alloc (.cells #[.int .i64 (reg : Int), .int .i64 (addr : Int), .slice (some ⟨b, 0, none⟩) n n] 50)) cb [.int .i64 (reg : Int), .int .i64 (addr : Int), .slice (some ⟨b, 0, none⟩) n n] 50 := Blk.new hcb
  have K0 := (Kept.refl Nil w).alloc (.cells #[.int .i64 (reg : Int), .int .i64 (addr : Int), .slice (some ⟨b, 0, none⟩) n n] 50)
  clear hcb
  go_loopw [5] (fun s5 W => ∃ k : Nat, k ≤ n ∧ s5 = .int .i64 (k : Int) ∧ Kept Nil w W ∧ Blk W cb [.int .i64 (reg : Int), .int .i64 (addr : Int), .slice (some ⟨b, 0, none⟩) n n] 50) (fun s5 _ => n - (intOf s5).toNat)
  case atStart => exact ⟨0, Nat.zero_le _, rfl, K0, B0⟩
  case round =>
    clear K0 B0
    obtain ⟨k, hk, rfl, hK, hB⟩ := hrel
    have q0 := hB.cell 0
    have q1 := hB.cell 1
    have q2 := hB.cell 2
    simp only [List.getElem?_cons_zero, List.getElem?_cons_succ] at q0 q1 q2
    have lc := hB.lt
    have hS := L.frame hSA (fun i hi => hK.block i (L.lt hSA i hi) id)
    by_cases hlt : k < n
    · obtain ⟨z, hz⟩ : ∃ z, z = c.ws.getD k 0 := ⟨_, rfl⟩
      have G := L.got hS hG hW (reg : Int) (addr : Int) (k : Int) ir ia ⟨by omega, by omega⟩
      have eg : s.got (reg : Int) (addr : Int) (k : Int) = z := by rw [H1.out, H2.out, got_cell hG hc k (by rw [← H3.out]; exact hlt), hz]
      have ea : s.asked (reg : Int) (addr : Int) (k : Int) = 0 := by rw [H1.out, H2.out, asked_cell hG hc, if_pos ⟨by omega, by rw [← H3.out]; omega⟩]
      rw [eg, ea] at G
      have J := Lib.hid G
      have qz := (Blk.keep hK hb id).cell k
      have qz2 : (ints c.ws)[k]? = some (.int .i64 z) := by
        unfold ints
        have : k < c.ws.length := by rw [← H3.out]; exact hlt
        rw [List.getElem?_map, List.getElem?_eq_getElem this, hz, List.getD_eq_getElem?_getD, List.getElem?_eq_getElem this]; rfl
      rw [qz2] at qz
      clear G eg ea qz2 hz
      go_wp2_with fail
      refine J.out.mono ?_
      rintro e w2 ⟨rfl, k2⟩
      have q02 := k2.cell q0 id
      have q12 := k2.cell q1 id
      have q22 := k2.cell q2 id
      have qz2 := k2.cell qz id
      have hB2 := Blk.keep k2 hB id
      have lc2 := hB2.lt
      have lz := World.block_lt_of_cell? _ _ qz2
      simp only at lz
      clear q0 q1 q2 qz hB
      go_wp2
      go_roundw
      case rel => exact ⟨k + 1, by omega, by go_num, hK.trans k2, hB2⟩
      case measure => simp [intOf]; omega
    · have G1 := L.got hS hG hW (reg : Int) (addr : Int) (n : Int) ir ia ⟨by omega, by omega⟩
      have nf1 : ¬ (0 ≤ (n : Int) ∧ (n : Int) < c.ws.length) := by rw [← H3.out]; omega
      have eg : s.got (reg : Int) (addr : Int) (n : Int) = 0 := by rw [H1.out, H2.out]; exact got_out hG hc _ nf1
      have ea : s.asked (reg : Int) (addr : Int) (n : Int) = 72 := by rw [H1.out, H2.out, asked_cell hG hc, if_neg nf1]
      rw [eg, ea] at G1
      have J1 := Lib.hid G1
      clear G1 eg ea nf1
      go_wp2_with fail
      refine J1.out.mono ?_
      rintro e w2 ⟨rfl, k2⟩
      have q02 := k2.cell q0 id
      have q12 := k2.cell q1 id
      have hB2 := Blk.keep k2 hB id
      have lc2 := hB2.lt
      clear q0 q1 q2 hB
      have hS2 := L.frame hS (fun i hi => k2.block i (L.lt hS i hi) id)
      have G2 := L.got hS2 hG hW (reg : Int) (addr : Int) (-1) ir ia ⟨by omega, by omega⟩
      have nf1 : ¬ (0 ≤ (-1 : Int) ∧ (-1 : Int) < c.ws.length) := by omega
      have eg : s.got (reg : Int) (addr : Int) (-1) = 0 := by rw [H1.out, H2.out]; exact got_out hG hc _ nf1
      have ea : s.asked (reg : Int) (addr : Int) (-1) = 72 := by rw [H1.out, H2.out, asked_cell hG hc, if_neg nf1]
      rw [eg, ea] at G2
      have J2 := Lib.hid G2
      clear G2 eg ea nf1
      go_wp2_with fail
      refine J2.out.mono ?_
      rintro e w3 ⟨rfl, k3⟩
      go_wp2
      go_ret
      exact ⟨rfl, (hK.trans k2).trans k3⟩
end Go.Proofs.Ytfoacgdahonapaa
