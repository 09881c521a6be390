/-
  The walk of the law WireCompares: checksums and comparisons are the document's.
-/
import Derived.Test.YtdlbjbfonihglaaAwake
import Derived.Test.YtdlbjbfonihglaaRChecksum
import Derived.Test.YtdlbjbfonihglaaRCompare
import Derived.Test.YtdlbjbfonihglaaWEqual
namespace Go.Proofs.Ytdlbjbfonihglaa
open Go.RowKit
set_option linter.unusedVariables false

set_option maxHeartbeats 800000 in
theorem wireCompares_true (p : Option Addr) (n c : Nat) (xs : List Int) (q : Option Addr) (m d : Nat) (ys : List Int) (w : World)
    (h : Byt w p n c xs) (b0 : c ≤ 140737488351232) (k : Byt w q m d ys) (b1 : d ≤ 140737488351232) :
    Calls Try.prog 4 #[.slice p n c, .slice q m d, .bool true] w fun e w' => e = .returned (.bool true) ∧ Below w.heap.size w w' := by
  have l0 := h.cap
  have l1 := k.cap
  have C1 := hidden (fun W (hb : Below w.heap.size w W) => checksum_any p n c xs W (h.below hb) (by omega))
  have C2 := hidden (fun W (hb : Below w.heap.size w W) => rchecksum_any p n c xs W (h.below hb) (by omega))
  have C3 := hidden (fun W (hb : Below w.heap.size w W) => equal_any p p n c n c xs xs W (h.below hb) (h.below hb))
  have C4 := hidden (fun W (hb : Below w.heap.size w W) => requal_any p p n c n c xs xs W (h.below hb) (h.below hb))
  have C5 := hidden (fun W (hb : Below w.heap.size w W) => compare_any p p n c n c xs xs W (h.below hb) (h.below hb))
  have C6 := hidden (fun W (hb : Below w.heap.size w W) => rcompare_any p p n c n c xs xs W (h.below hb) (h.below hb))
  have C7 := hidden (fun W (hb : Below w.heap.size w W) => compare_any p p n c n c xs xs W (h.below hb) (h.below hb))
  clear h k
  rw [cmpR_flip xs xs] at C7
  have hv : -1 ≤ cmpR xs xs ∧ cmpR xs xs ≤ 1 := by
    have := cmpR_vals xs xs
    omega
  have hv0 : cmpR xs xs = 0 := cmpR_refl xs
  generalize cmpR xs xs = v at *
  subst hv0
  rw [show (-0 : Int) = 0 by rfl] at C7
  generalize decide (xs = xs) = t at *
  generalize sumR xs = s at *
  go_enter Try.func4, Try.ntmps4
  go_wp2_with (first
    | (go_at_call 10; refine (awake_any _).mono ?_; rintro e w1 ⟨rfl, hb1⟩; have HB := hidden hb1; clear hb1)
    | (go_at_call 19; (with_reducible refine (C1.out _ HB.out).mono ?_); rintro e w' ⟨rfl, rfl⟩)
    | (go_at_call 20; (with_reducible refine (C2.out _ HB.out).mono ?_); rintro e w' ⟨rfl, rfl⟩)
    | (go_at_call 21; (with_reducible refine (C3.out _ HB.out).mono ?_); rintro e w' ⟨rfl, rfl⟩)
    | (go_at_call 14; (with_reducible refine (C4.out _ HB.out).mono ?_); rintro e w2 ⟨rfl, hd⟩; have HB2 := hidden (HB.out.trans (drew_below hd)); clear hd)
    | (go_at_call 22; (with_reducible refine (C5.out _ HB2.out).mono ?_); rintro e w' ⟨rfl, rfl⟩)
    | (go_at_call 23; (with_reducible refine (C6.out _ HB2.out).mono ?_); rintro e w3 ⟨rfl, hd⟩; have HB3 := hidden (HB2.out.trans (drew_below hd)); clear hd)
    | (go_at_call 22; (first | (with_reducible refine (C7.out _ HB3.out).mono ?_) | (with_reducible refine (C5.out _ HB3.out).mono ?_)); rintro e w' ⟨rfl, rfl⟩))
  go_ret
  exact ⟨rfl, HB3.out⟩

set_option maxHeartbeats 800000 in
theorem wireCompares_false (p : Option Addr) (n c : Nat) (xs : List Int) (q : Option Addr) (m d : Nat) (ys : List Int) (w : World)
    (h : Byt w p n c xs) (b0 : c ≤ 140737488351232) (k : Byt w q m d ys) (b1 : d ≤ 140737488351232) :
    Calls Try.prog 4 #[.slice p n c, .slice q m d, .bool false] w fun e w' => e = .returned (.bool true) ∧ Below w.heap.size w w' := by
  have l0 := h.cap
  have l1 := k.cap
  have C1 := hidden (fun W (hb : Below w.heap.size w W) => checksum_any p n c xs W (h.below hb) (by omega))
  have C2 := hidden (fun W (hb : Below w.heap.size w W) => rchecksum_any p n c xs W (h.below hb) (by omega))
  have C3 := hidden (fun W (hb : Below w.heap.size w W) => equal_any p q n c m d xs ys W (h.below hb) (k.below hb))
  have C4 := hidden (fun W (hb : Below w.heap.size w W) => requal_any p q n c m d xs ys W (h.below hb) (k.below hb))
  have C5 := hidden (fun W (hb : Below w.heap.size w W) => compare_any p q n c m d xs ys W (h.below hb) (k.below hb))
  have C6 := hidden (fun W (hb : Below w.heap.size w W) => rcompare_any p q n c m d xs ys W (h.below hb) (k.below hb))
  have C7 := hidden (fun W (hb : Below w.heap.size w W) => compare_any q p m d n c ys xs W (k.below hb) (h.below hb))
  clear h k
  rw [cmpR_flip xs ys] at C7
  have hv : -1 ≤ cmpR xs ys ∧ cmpR xs ys ≤ 1 := by
    have := cmpR_vals xs ys
    omega
  generalize cmpR xs ys = v at *
  generalize decide (xs = ys) = t at *
  generalize sumR xs = s at *
  go_enter Try.func4, Try.ntmps4
  go_wp2_with (first
    | (go_at_call 10; refine (awake_any _).mono ?_; rintro e w1 ⟨rfl, hb1⟩; have HB := hidden hb1; clear hb1)
    | (go_at_call 19; (with_reducible refine (C1.out _ HB.out).mono ?_); rintro e w' ⟨rfl, rfl⟩)
    | (go_at_call 20; (with_reducible refine (C2.out _ HB.out).mono ?_); rintro e w' ⟨rfl, rfl⟩)
    | (go_at_call 21; (with_reducible refine (C3.out _ HB.out).mono ?_); rintro e w' ⟨rfl, rfl⟩)
    | (go_at_call 14; (with_reducible refine (C4.out _ HB.out).mono ?_); rintro e w2 ⟨rfl, hd⟩; have HB2 := hidden (HB.out.trans (drew_below hd)); clear hd)
    | (go_at_call 22; (with_reducible refine (C5.out _ HB2.out).mono ?_); rintro e w' ⟨rfl, rfl⟩)
    | (go_at_call 23; (with_reducible refine (C6.out _ HB2.out).mono ?_); rintro e w3 ⟨rfl, hd⟩; have HB3 := hidden (HB2.out.trans (drew_below hd)); clear hd)
    | (go_at_call 22; (first | (with_reducible refine (C7.out _ HB3.out).mono ?_) | (with_reducible refine (C5.out _ HB3.out).mono ?_)); rintro e w' ⟨rfl, rfl⟩))
  go_ret
  exact ⟨rfl, HB3.out⟩

theorem wireCompares_walk (p : Option Addr) (n c : Nat) (xs : List Int) (q : Option Addr) (m d : Nat) (ys : List Int) (s : Bool) (w : World)
    (h : Byt w p n c xs) (b0 : c ≤ 140737488351232) (k : Byt w q m d ys) (b1 : d ≤ 140737488351232) :
    Calls Try.prog 4 #[.slice p n c, .slice q m d, .bool s] w fun e w' => e = .returned (.bool true) ∧ Below w.heap.size w w' := by
  cases s
  · exact wireCompares_false p n c xs q m d ys w h b0 k b1
  · exact wireCompares_true p n c xs q m d ys w h b0 k b1
end Go.Proofs.Ytdlbjbfonihglaa
