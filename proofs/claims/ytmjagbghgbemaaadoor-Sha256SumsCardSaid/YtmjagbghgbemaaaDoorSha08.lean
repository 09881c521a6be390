/-
  The example of the chapter on the hash holds: awake returns true and only adds memory of its own.
-/
import Derived.Test.YtmjagbghgbemaaaDoorShaSum
import Derived.Test.YtmjagbghgbemaaaDoorHex
import Derived.Lib.SlBytesConst
namespace Go.Proofs.YtmjagbghgbemaaaDoor
open Go.RowKit
set_option linter.unusedVariables false

def abcS : List Int := [0xba, 0x78, 0x16, 0xbf, 0x8f, 0x01, 0xcf, 0xea, 0x41, 0x41, 0x40, 0xde, 0x5d, 0xae, 0x22, 0x23, 0xb0, 0x03, 0x61, 0xa3, 0x96, 0x17, 0x7a, 0x9c, 0xb4, 0x10, 0xff, 0x61, 0xf2, 0x00, 0x15, 0xad]
theorem abcS_rng : ∀ x ∈ abcS, 0 ≤ x ∧ x ≤ 255 := by decide
theorem abc_byt (w : World) : Byt (w.alloc (.cells #[.int .u8 97, .int .u8 98, .int .u8 99] 5 (3, 4))) (some ⟨w.heap.size, 0, none⟩) 3 3 [97, 98, 99] :=
  ⟨rfl, Nat.le_refl _, by decide, by decide, fun _ => ⟨w.heap.size, 0, rfl, fun j hj => by
    have : j = 0 ∨ j = 1 ∨ j = 2 := by simp at hj; omega
    rcases this with rfl | rfl | rfl <;> exact (cell_of_row _ w.heap.size _ _ _ _ (heap_alloc_new w _)).trans rfl⟩⟩

set_option maxHeartbeats 800000 in
set_option maxRecDepth 100000 in
theorem awake08_any (w : World) (hK : KAt w) : Calls Tryd.prog 13 #[] w fun e w' => e = .returned (.bool true) ∧ Below w.heap.size w w' := by
  have hb1 := (Below.refl w.heap.size w).alloc (Nat.le_refl _) (.cells #[.int .u8 97, .int .u8 98, .int .u8 99] 5 (3, 4))
  have hs := sum_any (some ⟨w.heap.size, 0, none⟩) 3 3 [97, 98, 99] _ (abc_byt w) (by omega) (hK.below hb1 hK.lt)
  rw [abc] at hs
  have HS : Hid (Calls Tryd.prog 15 #[.slice (some ⟨w.heap.size, 0, none⟩) 3 3] (w.alloc (.cells #[.int .u8 97, .int .u8 98, .int .u8 99] 5 (3, 4))) (BytesPut (w.alloc (.cells #[.int .u8 97, .int .u8 98, .int .u8 99] 5 (3, 4))) abcS)) := hs
  have HB1 := hidden hb1
  have HH := hidden (fun q d (W : World) (h : Byt W q 32 d abcS) => hex_any q 32 d abcS W h (by omega))
  obtain ⟨S, hS⟩ : ∃ S, strOfNums (hx abcS) = S := ⟨_, rfl⟩
  rw [hS] at HH
  clear hb1 hs hK
  have kc := fun (w : World) (C : Array Value) (n c : Nat) => Lib.run_convert_bytes_const (P := Tryd.prog) w 22 5 C n c Tryd.underlying22 Tryd.underlying5
  go_enter Tryd.func13, Tryd.ntmps13
  go_wp2_with (first
    | (go_at_call 15; (with_reducible refine (HS.out).mono ?_); rintro e w2 ⟨v, rfl, hown, hbel⟩; obtain ⟨q, d, rfl, hbyt⟩ := hown.bytN (N := 32) rfl rfl abcS_rng; have HB2 := hidden (HB1.out.trans (hbel.mono HB1.out.size)); have HY := hidden hbyt; clear hown hbel hbyt)
    | (go_at_call 37; (with_reducible refine (HH.out q d w2 HY.out).mono ?_); rintro e w3 ⟨rfl, hbel⟩; have HB3 := hidden (HB2.out.trans (hbel.mono HB2.out.size)); clear hbel)
    | fail)
  go_ret
  refine ⟨?_, HB3.out⟩
  rw [← hS]
  kernel_rfl
end Go.Proofs.YtmjagbghgbemaaaDoor
