/- The reference makes no cell. -/
import Derived.Test.YtfoacgdahonapaaRefMake
namespace Go.Proofs.Ytfoacgdahonapaa
open Go.RowKit Abs
set_option linter.unusedVariables false

set_option maxRecDepth 100000 in
theorem ref_unmade {w : World} {sp : Addr} {s : ASt} {F : Nat → Prop} (h : RefAt w sp s F) (hG : s.Good) (hW : s.Within 200) (r n : Int) (hr : I64 r) (hn : I64 n) (hbad : ¬ s.isOpen r ∨ n < 1 ∨ 4097 < n) :
    Calls Try.prog 16 #[.pointer (some sp), .int .i64 r, .int .i64 n] w fun e w' => e = .returned (.tuple #[.int .i64 0, .int .i64 (if s.isOpen r then 73 else 70)]) ∧ w' = w := by
  have io := ref_isOpen h hG hW.many r hr
  obtain ⟨sb, vs, all, data, rfl, rfl, hl, hR, hO⟩ := h
  by_cases ho : s.isOpen r
  · rw [show decide (s.isOpen r) = true from by simpa using ho] at io
    rw [if_pos ho]
    have IO := Lib.hid io
    clear io
    have hb : n < 1 ∨ 4097 < n := hbad.resolve_left (fun h => h ho)
    clear hbad ho
    by_cases h1 : n < 1
    · have d1 : decide (n < 1) = true := by simpa using h1
      clear hb
      go_enter Try.func16, Try.ntmps16
      go_wp2_with fail
      refine IO.out.mono ?_
      rintro e w' ⟨rfl, rfl⟩
      go_wp2
      go_ret2
      exact ⟨rfl, rfl⟩
    · have d1 : decide (n < 1) = false := by simpa using h1
      have d2 : decide (4097 < n) = true := by simp; omega
      clear hb h1
      go_enter Try.func16, Try.ntmps16
      go_wp2_with fail
      refine IO.out.mono ?_
      rintro e w' ⟨rfl, rfl⟩
      go_wp2
      go_ret2
      exact ⟨rfl, rfl⟩
  · rw [show decide (s.isOpen r) = false from by simpa using ho] at io
    rw [if_neg ho]
    have IO := Lib.hid io
    clear io hbad ho
    go_enter Try.func16, Try.ntmps16
    go_wp2_with fail
    refine IO.out.mono ?_
    rintro e w' ⟨rfl, rfl⟩
    go_wp2
    go_ret2
    exact ⟨rfl, rfl⟩
end Go.Proofs.Ytfoacgdahonapaa
