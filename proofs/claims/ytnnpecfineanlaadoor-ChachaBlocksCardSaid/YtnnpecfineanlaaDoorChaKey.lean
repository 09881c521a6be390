/-
  The key and the nonce that the laws of chapter 10 draw; and what Xor returns, told as a slice that reads.
-/
import Derived.Test.YtnnpecfineanlaaDoorChaXorY
import Derived.Test.YtnnpecfineanlaaDoorMkBytes
import Derived.Test.YtnnpecfineanlaaDoorCodes2
import Derived.Test.YtnnpecfineanlaaDoorRCompare
namespace Go.Proofs.YtnnpecfineanlaaDoor
open Go.RowKit
set_option linter.unusedVariables false

theorem Bod.stay {w w' : World} {base : Nat} {p : Option Addr} {n c : Nat} {ys : List Int} {k : Nat} (h : Bod w base p n c ys) (hg : w.grownBy w' (some k)) (hk : k < base) : Bod w' base p n c ys := h.grown hg (OffB.low hk)
theorem bytes_at (W w : World) (k : Nat) (h : Cod W w k) (n : Nat) (hn : n ≤ 100000) (z : Int) (hz : z = (n : Int)) :
    Calls Tryd.prog 28 #[.pointer (some ⟨k, 0, none⟩), .int .i64 z] w fun e w' => ∃ p c ys, e = .returned (.slice p n c) ∧ Bod w' w.heap.size p n c ys ∧ Cod W w' k ∧ w.grownBy w' (some k) := by
  subst hz
  exact mbytes_any W w k h n hn
set_option maxHeartbeats 800000 in
theorem key_any (p : Option Addr) (n c : Nat) (xs : List Int) (w : World) (h : Byt w p n c xs) :
    Calls Tryd.prog 15 #[.slice p n c] w fun e w' => ∃ p1 c1 y1 p2 c2 y2, e = .returned (.tuple #[.slice p1 32 c1, .slice p2 12 c2]) ∧ Byt w' p1 32 c1 y1 ∧ Byt w' p2 12 c2 y2 ∧ Below w.heap.size w w' := by
  have HN : Hid (Calls Tryd.prog 8 #[.slice p n c, .int .i64 60] w fun e w' => e = .returned (.pointer (some ⟨w.heap.size, 0, none⟩)) ∧ Cod w w' w.heap.size ∧ Below w.heap.size w w') := new_any w p n c xs w h (Below.refl _ _) 60 (by omega)
  clear h
  go_enter Tryd.func15, Tryd.ntmps15
  go_upto_region 2 with (first
    | (go_at_call 8; (with_reducible refine (HN.out).mono ?_); rintro e w1 ⟨rfl, hcod, hbel⟩; have HC := hidden hcod; have HB := hidden hbel; clear hcod hbel)
    | fail)
  have hk := HC.out.lt
  have HC1 := hidden (bytes_at w w1 w.heap.size HC.out 32 (by omega) 32 rfl)
  go_wp2_with (first
    | (go_at_call 28; (with_reducible refine (HC1.out).mono ?_); rintro e w2 ⟨p1, c1, y1, rfl, hb1, hc1, hg1⟩; have H1 := hidden hb1; have HK1 := hidden hc1; have HG1 := hidden hg1; have HC2 := hidden (bytes_at w w2 w.heap.size hc1 12 (by omega) 12 rfl); clear hb1 hc1 hg1 HC1)
    | (go_at_call 28; (with_reducible refine (HC2.out).mono ?_); rintro e w3 ⟨p2, c2, y2, rfl, hb2, hc2, hg2⟩; have H2 := hidden hb2; have HG2 := hidden hg2; clear hb2 hc2 hg2 HC2)
    | fail)
  go_ret2
  refine ⟨p1, c1, y1, p2, c2, y2, rfl, (H1.out.stay HG2.out hk).byt, H2.out.byt, ?_⟩
  exact (HB.out.grown HG1.out HB.out.size (fun k e => by cases e; omega)).grown HG2.out (Nat.le_trans HB.out.size HG1.out.size) (fun k e => by cases e; omega)
/-- What Xor returns, as a slice that reads. -/
def XorTo (N : Nat) (R : List Int) (w : World) (e : Ending) (w' : World) : Prop :=
  ∃ p' c', e = .returned (.tuple #[.slice p' N c', .bool true]) ∧ Byt w' p' N c' R ∧ Below w.heap.size w w'
theorem cxor_to (p q r : Option Addr) (c d n e : Nat) (key nonce b : List Int) (ctr : Int) (w : World) (h : Byt w p 32 c key) (h' : Byt w q 12 d nonce) (hb : Byt w r n e b) (hn : n ≤ 1000000) (hQ : QAt w) (hc0 : 0 ≤ ctr) (hc1 : ctr < 4294967296) :
    Calls Tryd.prog 18 #[.slice p 32 c, .int .u32 ctr, .slice q 12 d, .slice r n e] w (XorTo n (xorC key ctr nonce b) w) :=
  (cxor_yes p q r c d n e key nonce b ctr w h h' hb hn hQ hc0 hc1).mono fun en w' ⟨v, he, ho, hbl⟩ => by
    obtain ⟨p', c', rfl, hy⟩ := ho.bytN (N := n) rfl (by rw [xorC_len]; exact hb.len) (xorC_rng _ _ _ _)
    exact ⟨p', c', he, hy, hbl⟩
theorem awake10_t (w : World) : Calls Tryd.prog 14 #[] w fun e w' => e = .returned (.bool true) ∧ Below w.heap.size w w' := awake10_any w
end Go.Proofs.YtnnpecfineanlaaDoor
