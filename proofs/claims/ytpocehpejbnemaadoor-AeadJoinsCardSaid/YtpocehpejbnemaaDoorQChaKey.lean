/-
  The key and the nonce that the laws of chapter 10 draw; and what Xor returns, told as a slice that reads.
-/
import Derived.Test.YtpocehpejbnemaaDoorQChaXorY
import Derived.Test.YtpocehpejbnemaaDoorQMkBytes
import Derived.Test.YtpocehpejbnemaaDoorQZ3
import Derived.Test.YtpocehpejbnemaaDoorQRCompare
namespace Go.Proofs.YtpocehpejbnemaaDoor
open Go.RowKit
set_option linter.unusedVariables false

theorem Bod.stay {w w' : World} {base : Nat} {p : Option Addr} {n c : Nat} {ys : List Int} {k : Nat} (h : Bod w base p n c ys) (hg : w.grownBy w' (some k)) (hk : k < base) : Bod w' base p n c ys := h.grown hg (OffB.low hk)
theorem bytes_at (W w : World) (k : Nat) (h : Cod W w k) (n : Nat) (hn : n ≤ 100000) (z : Int) (hz : z = (n : Int)) :
    Calls Tryd.prog 16 #[.pointer (some ⟨k, 0, none⟩), .int .i64 z] w fun e w' => ∃ p c ys, e = .returned (.slice p n c) ∧ Bod w' w.heap.size p n c ys ∧ Cod W w' k ∧ w.grownBy w' (some k) := by
  subst hz
  exact mbytes_any W w k h n hn
/-- What Xor returns, as a slice that reads. -/
def XorTo (N : Nat) (R : List Int) (w : World) (e : Ending) (w' : World) : Prop :=
  ∃ p' c', e = .returned (.tuple #[.slice p' N c', .bool true]) ∧ Byt w' p' N c' R ∧ Below w.heap.size w w'
theorem cxor_to (p q r : Option Addr) (c d n e : Nat) (key nonce b : List Int) (ctr : Int) (w : World) (h : Byt w p 32 c key) (h' : Byt w q 12 d nonce) (hb : Byt w r n e b) (hn : n ≤ 1000000) (hQ : QAt w) (hc0 : 0 ≤ ctr) (hc1 : ctr < 4294967296) :
    Calls Tryd.prog 24 #[.slice p 32 c, .int .u32 ctr, .slice q 12 d, .slice r n e] w (XorTo n (xorC key ctr nonce b) w) :=
  (cxor_yes p q r c d n e key nonce b ctr w h h' hb hn hQ hc0 hc1).mono fun en w' ⟨v, he, ho, hbl⟩ => by
    obtain ⟨p', c', rfl, hy⟩ := ho.bytN (N := n) rfl (by rw [xorC_len]; exact hb.len) (xorC_rng _ _ _ _)
    exact ⟨p', c', he, hy, hbl⟩
end Go.Proofs.YtpocehpejbnemaaDoor
