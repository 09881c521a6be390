/-
  What the laws of chapter 16 use: a drawn nonce; the comparison of two lists of keys; the contracts told for both sides.
-/
import Derived.Test.YtgpigjoonhghhaaDoorQAKeyAw
import Derived.Test.YtgpigjoonhghhaaDoorQAKeyDer
import Derived.Test.YtgpigjoonhghhaaDoorQARKeyDer
import Derived.Test.YtgpigjoonhghhaaDoorQAKeyCh
import Derived.Test.YtgpigjoonhghhaaDoorQARKeyCh
import Derived.Test.YtgpigjoonhghhaaDoorQAZ5
import Derived.Test.YtgpigjoonhghhaaDoorQAZ1
namespace Go.Proofs.YtgpigjoonhghhaaDoor
open Go.RowKit
set_option linter.unusedVariables false
theorem equal_likeK (p q : Option Addr) (n c m d : Nat) (L : List Int) (W : World) (h : Byt W p n c L) (k : Byt W q m d L) :
    Calls Tryd.prog 12 #[.slice p n c, .slice q m d] W fun e w' => e = .returned (.bool true) ∧ Below W.heap.size W w' := by
  have := requal_any p q n c m d L L W h k
  rw [show decide (L = L) = true from decide_eq_true rfl] at this
  refine this.mono ?_
  rintro e w' ⟨rfl, r, rfl⟩
  exact ⟨rfl, below_drewN r⟩
structure Rd5 (w : World) (p0 p1 p2 p3 p4 : Option Addr) (n0 n1 n2 n3 n4 c0 c1 c2 c3 c4 : Nat) (L : Nat → List Int) : Prop where
  y0 : Byt w p0 n0 c0 (L 0)
  y1 : Byt w p1 n1 c1 (L 1)
  y2 : Byt w p2 n2 c2 (L 2)
  y3 : Byt w p3 n3 c3 (L 3)
  y4 : Byt w p4 n4 c4 (L 4)
theorem Rd5.below {w w' : World} {p0 p1 p2 p3 p4 : Option Addr} {n0 n1 n2 n3 n4 c0 c1 c2 c3 c4 : Nat} {L : Nat → List Int} (h : Rd5 w p0 p1 p2 p3 p4 n0 n1 n2 n3 n4 c0 c1 c2 c3 c4 L) (hb : Below w.heap.size w w') : Rd5 w' p0 p1 p2 p3 p4 n0 n1 n2 n3 n4 c0 c1 c2 c3 c4 L :=
  ⟨h.y0.below hb, h.y1.below hb, h.y2.below hb, h.y3.below hb, h.y4.below hb⟩
set_option maxHeartbeats 1600000 in
set_option maxRecDepth 100000 in
theorem same16_any (p0 p1 p2 p3 p4 q0 q1 q2 q3 q4 : Option Addr) (n0 n1 n2 n3 n4 c0 c1 c2 c3 c4 m0 m1 m2 m3 m4 d0 d1 d2 d3 d4 : Nat) (L : Nat → List Int) (w : World)
    (h : Rd5 w p0 p1 p2 p3 p4 n0 n1 n2 n3 n4 c0 c1 c2 c3 c4 L) (k : Rd5 w q0 q1 q2 q3 q4 m0 m1 m2 m3 m4 d0 d1 d2 d3 d4 L) :
    Calls Tryd.prog 17 #[.agg #[.slice p0 n0 c0, .slice p1 n1 c1, .slice p2 n2 c2, .slice p3 n3 c3, .slice p4 n4 c4], .agg #[.slice q0 m0 d0, .slice q1 m1 d1, .slice q2 m2 d2, .slice q3 m3 d3, .slice q4 m4 d4]] w
      fun e w' => e = .returned (.bool true) ∧ Below w.heap.size w w' := by
  have hba := (Below.refl w.heap.size w).alloc (Nat.le_refl _) (.cells #[.slice p0 n0 c0, .slice p1 n1 c1, .slice p2 n2 c2, .slice p3 n3 c3, .slice p4 n4 c4] 34)
  have hbb := hba.alloc hba.size (.cells #[.slice q0 m0 d0, .slice q1 m1 d1, .slice q2 m2 d2, .slice q3 m3 d3, .slice q4 m4 d4] 34)
  have hka := (K5.new (p0 := p0) (p1 := p1) (p2 := p2) (p3 := p3) (p4 := p4) (n0 := n0) (n1 := n1) (n2 := n2) (n3 := n3) (n4 := n4) (c0 := c0) (c1 := c1) (c2 := c2) (c3 := c3) (c4 := c4) w 34).below ((Below.refl _ _).alloc (Nat.le_refl _) (.cells #[.slice q0 m0 d0, .slice q1 m1 d1, .slice q2 m2 d2, .slice q3 m3 d3, .slice q4 m4 d4] 34))
  have hkb := K5.new (p0 := q0) (p1 := q1) (p2 := q2) (p3 := q3) (p4 := q4) (n0 := m0) (n1 := m1) (n2 := m2) (n3 := m3) (n4 := m4) (c0 := d0) (c1 := d1) (c2 := d2) (c3 := d3) (c4 := d4) (w.alloc (.cells #[.slice p0 n0 c0, .slice p1 n1 c1, .slice p2 n2 c2, .slice p3 n3 c3, .slice p4 n4 c4] 34)) 34
  rw [World.size_alloc] at hkb
  have HB0 := hidden hbb
  have H := hidden (fun W (hW : Below w.heap.size w W) => h.below hW)
  have K := hidden (fun W (hW : Below w.heap.size w W) => k.below hW)
  clear hba h k
  go_enter Tryd.func17, Tryd.ntmps17
  go_upto_region 1 with fail
  generalize World.alloc _ _ = w1 at *
  have HA := hidden (fun W (hW : Below w1.heap.size w1 W) => hka.below hW)
  have HKB := hidden (fun W (hW : Below w1.heap.size w1 W) => hkb.below hW)
  obtain ⟨a0, a1, a2, a3, a4, -⟩ := hka
  obtain ⟨b0, b1, b2, b3, b4, -⟩ := hkb
  have HR1 := hidden (Below.refl w1.heap.size w1)
  clear hbb
  go_wp2_with (first
    | (go_at_call 12; (with_reducible refine (equal_likeK p0 q0 n0 c0 m0 d0 (L 0) _ (H.out _ HB0.out).y0 (K.out _ HB0.out).y0).mono ?_); rintro e w2 ⟨rfl, hb2⟩; have HB2 := hidden (HB0.out.trans (hb2.mono HB0.out.size)); have HR2 := hidden (HR1.out.trans (hb2.mono HR1.out.size)); obtain ⟨a0, a1, a2, a3, a4, -⟩ := HA.out _ HR2.out; obtain ⟨b0, b1, b2, b3, b4, -⟩ := HKB.out _ HR2.out; clear hb2)
    | (go_at_call 12; (with_reducible refine (equal_likeK p1 q1 n1 c1 m1 d1 (L 1) _ (H.out _ HB2.out).y1 (K.out _ HB2.out).y1).mono ?_); rintro e w3 ⟨rfl, hb3⟩; have HB3 := hidden (HB2.out.trans (hb3.mono HB2.out.size)); have HR3 := hidden (HR2.out.trans (hb3.mono HR2.out.size)); obtain ⟨a0, a1, a2, a3, a4, -⟩ := HA.out _ HR3.out; obtain ⟨b0, b1, b2, b3, b4, -⟩ := HKB.out _ HR3.out; clear hb3)
    | (go_at_call 12; (with_reducible refine (equal_likeK p2 q2 n2 c2 m2 d2 (L 2) _ (H.out _ HB3.out).y2 (K.out _ HB3.out).y2).mono ?_); rintro e w4 ⟨rfl, hb4⟩; have HB4 := hidden (HB3.out.trans (hb4.mono HB3.out.size)); have HR4 := hidden (HR3.out.trans (hb4.mono HR3.out.size)); obtain ⟨a0, a1, a2, a3, a4, -⟩ := HA.out _ HR4.out; obtain ⟨b0, b1, b2, b3, b4, -⟩ := HKB.out _ HR4.out; clear hb4)
    | (go_at_call 12; (with_reducible refine (equal_likeK p3 q3 n3 c3 m3 d3 (L 3) _ (H.out _ HB4.out).y3 (K.out _ HB4.out).y3).mono ?_); rintro e w5 ⟨rfl, hb5⟩; have HB5 := hidden (HB4.out.trans (hb5.mono HB4.out.size)); have HR5 := hidden (HR4.out.trans (hb5.mono HR4.out.size)); obtain ⟨a0, a1, a2, a3, a4, -⟩ := HA.out _ HR5.out; obtain ⟨b0, b1, b2, b3, b4, -⟩ := HKB.out _ HR5.out; clear hb5)
    | (go_at_call 12; (with_reducible refine (equal_likeK p4 q4 n4 c4 m4 d4 (L 4) _ (H.out _ HB5.out).y4 (K.out _ HB5.out).y4).mono ?_); rintro e w6 ⟨rfl, hb6⟩; have HB6 := hidden (HB5.out.trans (hb6.mono HB5.out.size)); clear hb6)
    | fail)
  go_ret
  exact ⟨rfl, HB6.out⟩
end Go.Proofs.YtgpigjoonhghhaaDoor
