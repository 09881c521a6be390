/-
  The example of the chapter on Poly1305 holds: awake returns true and only adds memory of its own.
-/
import Derived.Test.YtnbpangegegccaaPolySum
import Derived.Test.YtnbpangegegccaaRUnhex
import Derived.Test.YtnbpangegegccaaRHex
import Derived.Lib.SlBytesConst
namespace Go.Proofs.Ytnbpangegegccaa
open Go.RowKit
set_option linter.unusedVariables false

theorem polyKey_rng : ∀ x ∈ polyKey, 0 ≤ x ∧ x ≤ 255 := by decide
theorem polyMsg_rng : ∀ x ∈ polyMsg, 0 ≤ x ∧ x ≤ 255 := by decide
theorem polyTag_rng : ∀ x ∈ polyTag, 0 ≤ x ∧ x ≤ 255 := by decide
/-- The key's text. -/
def keyText : ByteArray := ⟨#[56, 53, 100, 54, 98, 101, 55, 56, 53, 55, 53, 53, 54, 100, 51, 51, 55, 102, 52, 52, 53, 50, 102, 101, 52, 50, 100, 53, 48, 54, 97, 56, 48, 49, 48, 51, 56, 48, 56, 97, 102, 98, 48, 100, 98, 50, 102, 100, 52, 97, 98, 102, 102, 54, 97, 102, 52, 49, 52, 57, 102, 53, 49, 98]⟩
theorem keyText_is : letters keyText = hx polyKey := by decide +kernel
set_option maxHeartbeats 800000 in
set_option maxRecDepth 100000 in
theorem mhex_any (w : World) : Calls Try.prog 13 #[.string keyText] w fun e w' => ∃ v, e = .returned v ∧ Own w' w.heap.size 5 v polyKey ∧ Below w.heap.size w w' := by
  have HC : Hid (Calls Try.prog 28 #[.string keyText] w fun e w' => ∃ v, e = .returned (.tuple #[v, .int .i64 0]) ∧ Own w' w.heap.size 5 v polyKey ∧ Below w.heap.size w w') := by
    refine (runhex_any keyText w (by decide)).mono ?_
    rintro e w' ⟨hb, h⟩
    have hu : unh (letters keyText) = some polyKey := by rw [keyText_is]; exact unh_hx polyKey polyKey_rng
    have hl : (letters keyText).length % 2 = 0 := by rw [keyText_is, hx_len]; rfl
    rcases h with ⟨h, _⟩ | ⟨_, h, _⟩ | ⟨_, ys, v, h, he, ho⟩
    · omega
    · rw [hu] at h; cases h
    · rw [hu] at h; cases h
      exact ⟨v, he, ho, hb⟩
  generalize keyText = kt at *
  go_enter Try.func13, Try.ntmps13
  go_wp2_with (first
    | (go_at_call 28; (with_reducible refine (HC.out).mono ?_); rintro e w2 ⟨v, rfl, ho, hb⟩; have HO := hidden ho; have HB := hidden hb; clear ho hb)
    | fail)
  go_ret
  exact ⟨v, rfl, HO.out, HB.out⟩
theorem const_bytP (w : World) (l : List Int) (n : Nat) (hn : l.length = n) (hb : n ≤ maxLen) (hr : ∀ x ∈ l, 0 ≤ x ∧ x ≤ 255) (T : TypeId) (fz : Nat × Nat) : Byt (w.alloc (.cells (l.map (Value.int .u8)).toArray T fz)) (some ⟨w.heap.size, 0, none⟩) n n l :=
  ⟨hn, Nat.le_refl _, hb, hr, fun _ => ⟨w.heap.size, 0, rfl, fun j hj => by
    rw [cell_of_row _ w.heap.size _ _ _ _ (heap_alloc_new w _), Nat.zero_add]
    simp [List.getD_eq_getElem?_getD, hj]⟩⟩

set_option maxHeartbeats 800000 in
set_option maxRecDepth 100000 in
theorem awake11_any (w : World) : Calls Try.prog 7 #[] w fun e w' => e = .returned (.bool true) ∧ Below w.heap.size w w' := by
  have HH := hidden (mhex_any w)
  unfold keyText at HH
  have HX := hidden (fun q d (W : World) (h : Byt W q 16 d polyTag) => rhex_any q 16 d polyTag W h (by omega))
  have HPS := hidden (fun (p r : Option Addr) (c n e : Nat) (W : World) (h : Byt W p 32 c polyKey) (h' : Byt W r 34 34 polyMsg) => psum_yes p r c 34 34 polyKey polyMsg W h h' (by omega))
  rw [poly_example] at HPS
  obtain ⟨S, hS⟩ : ∃ S, strOfNums (hx polyTag) = S := ⟨_, rfl⟩
  rw [hS] at HX
  have hSE : S = ⟨#[97, 56, 48, 54, 49, 100, 99, 49, 51, 48, 53, 49, 51, 54, 99, 54, 99, 50, 50, 98, 56, 98, 97, 102, 48, 99, 48, 49, 50, 55, 97, 57]⟩ := by rw [← hS]; decide +kernel
  clear hS
  have HMB : Hid (∀ W : World, Byt (W.alloc (.cells #[.int .u8 67, .int .u8 114, .int .u8 121, .int .u8 112, .int .u8 116, .int .u8 111, .int .u8 103, .int .u8 114, .int .u8 97, .int .u8 112, .int .u8 104, .int .u8 105, .int .u8 99, .int .u8 32, .int .u8 70, .int .u8 111, .int .u8 114, .int .u8 117, .int .u8 109, .int .u8 32, .int .u8 82, .int .u8 101, .int .u8 115, .int .u8 101, .int .u8 97, .int .u8 114, .int .u8 99, .int .u8 104, .int .u8 32, .int .u8 71, .int .u8 114, .int .u8 111, .int .u8 117, .int .u8 112] 5 (34, 35))) (some ⟨W.heap.size, 0, none⟩) 34 34 polyMsg) := fun W => const_bytP W polyMsg 34 rfl (by decide) polyMsg_rng 5 (34, 35)
  have kc := fun (w : World) => Lib.run_convert_bytes_const (P := Try.prog) w 22 5 #[.int .u8 67, .int .u8 114, .int .u8 121, .int .u8 112, .int .u8 116, .int .u8 111, .int .u8 103, .int .u8 114, .int .u8 97, .int .u8 112, .int .u8 104, .int .u8 105, .int .u8 99, .int .u8 32, .int .u8 70, .int .u8 111, .int .u8 114, .int .u8 117, .int .u8 109, .int .u8 32, .int .u8 82, .int .u8 101, .int .u8 115, .int .u8 101, .int .u8 97, .int .u8 114, .int .u8 99, .int .u8 104, .int .u8 32, .int .u8 71, .int .u8 114, .int .u8 111, .int .u8 117, .int .u8 112] 34 34 Try.underlying22 Try.underlying5
  have HB2' : Hid (∀ W : World, Below w.heap.size w W → Below w.heap.size w (W.alloc (.cells #[.int .u8 67, .int .u8 114, .int .u8 121, .int .u8 112, .int .u8 116, .int .u8 111, .int .u8 103, .int .u8 114, .int .u8 97, .int .u8 112, .int .u8 104, .int .u8 105, .int .u8 99, .int .u8 32, .int .u8 70, .int .u8 111, .int .u8 114, .int .u8 117, .int .u8 109, .int .u8 32, .int .u8 82, .int .u8 101, .int .u8 115, .int .u8 101, .int .u8 97, .int .u8 114, .int .u8 99, .int .u8 104, .int .u8 32, .int .u8 71, .int .u8 114, .int .u8 111, .int .u8 117, .int .u8 112] 5 (34, 35)))) := fun W h => h.alloc h.size _
  subst hSE
  go_enter Try.func7, Try.ntmps7
  go_wp2_with (first
    | (go_at_call 13; (with_reducible refine (HH.out).mono ?_); rintro e w2 ⟨v, rfl, ho, hb⟩; obtain ⟨q, d, rfl, hbyt⟩ := ho.bytN (N := 32) rfl rfl polyKey_rng; have HB2 := hidden hb; have HY := hidden hbyt; have kc2 := kc w2; clear ho hb hbyt)
    | (go_at_call 10; (with_reducible refine (HPS.out q (some ⟨w2.heap.size, 0, none⟩) d 34 34 _ (HY.out.alloc _) (HMB.out w2)).mono ?_); rintro e w3 ⟨v3, rfl, ho, hb⟩; obtain ⟨q3, d3, rfl, hbyt⟩ := ho.bytN (N := 16) rfl rfl polyTag_rng; have HB3 := hidden ((HB2'.out w2 HB2.out).trans (hb.mono (by have := HB2.out.size; simp; omega))); have HY3 := hidden hbyt; clear ho hb hbyt)
    | (go_at_call 14; (with_reducible refine (HX.out q3 d3 w3 HY3.out).mono ?_); rintro e w4 ⟨rfl, hbel⟩; have HB4 := hidden (HB3.out.trans (hbel.mono HB3.out.size)); clear hbel)
    | fail)
  go_ret
  exact ⟨rfl, HB4.out⟩
end Go.Proofs.Ytnbpangegegccaa
