/-
  The law's own draw: a payload of one of the twelve kinds.
  The law PayloadReads, walked: it returns true for every input of at most a mebibyte each, and only adds memory of its own.
  What the condition on the package variable says of the table of the payloads' types.
-/
import Derived.Test.YtbpmanbpmlkmnaaGreatDoorMZ17
import Derived.Test.YtbpmanbpmlkmnaaGreatDoorMZ18
import Derived.Test.YtbpmanbpmlkmnaaGreatDoorMPayMk35
import Derived.Test.YtbpmanbpmlkmnaaGreatDoorMPayMk39
import Derived.Test.YtbpmanbpmlkmnaaGreatDoorMPayMk41
import Derived.Test.YtbpmanbpmlkmnaaGreatDoorMPayMk42
import Derived.Test.YtbpmanbpmlkmnaaGreatDoorMPayMk43
import Derived.Test.YtbpmanbpmlkmnaaGreatDoorMZ15
import Derived.Test.YtbpmanbpmlkmnaaGreatDoorMZ21
import Derived.Deep.RegionHeld3
import Derived.Deep.Cut
import Derived.Deep.CutRange
import Derived.ProofKit
import Derived.LaidMore
import Derived.Lib.LaidTab
import Derived.Stop.Joined
namespace Go.Proofs.YtbpmanbpmlkmnaaGreatDoor
open Go.RowKit
set_option linter.unusedVariables false

def kindsL : List Int := [33, 34, 40, 35, 36, 39, 44, 45, 41, 42, 43, 37]
/-- The package's table of kinds lies where it lies. -/
def KindsAt (w : World) : Prop := ∀ j, j < 12 → w.cell? ⟨0, j, none⟩ = some (.int .i64 (kindsL.getD j 0))
theorem KindsAt.grown {w w' : World} {k : Nat} (h : KindsAt w) (hg : w.grownBy w' (some k)) (hk : 0 < k) : KindsAt w' := fun j hj => hg.cell (h j hj) (by simp; omega)
theorem KindsAt.below {w w' : World} (h : KindsAt w) (hb : Below w.heap.size w w') : KindsAt w' := fun j hj => cell_below hb _ _ (h j hj)
theorem kindsL_12 (j : Nat) (hj : j < 12) : Kind12 (kindsL.getD j 0) := by
  have : j = 0 ∨ j = 1 ∨ j = 2 ∨ j = 3 ∨ j = 4 ∨ j = 5 ∨ j = 6 ∨ j = 7 ∨ j = 8 ∨ j = 9 ∨ j = 10 ∨ j = 11 := by omega
  unfold Kind12
  rcases this with rfl | rfl | rfl | rfl | rfl | rfl | rfl | rfl | rfl | rfl | rfl | rfl <;> simp [kindsL]
theorem mkpay_any (W w : World) (k : Nat) (h : Cod W w k) (j : Nat) (hj : j < 12) : Calls Tryz.prog 17 #[.pointer (some ⟨k, 0, none⟩), .int .i64 (kindsL.getD j 0)] w (MadePv W w k (kindsL.getD j 0)) := by
  have : j = 0 ∨ j = 1 ∨ j = 2 ∨ j = 3 ∨ j = 4 ∨ j = 5 ∨ j = 6 ∨ j = 7 ∨ j = 8 ∨ j = 9 ∨ j = 10 ∨ j = 11 := by omega
  rcases this with rfl | rfl | rfl | rfl | rfl | rfl | rfl | rfl | rfl | rfl | rfl | rfl
  · exact mkpay33 W w k h
  · exact mkpay34 W w k h
  · exact mkpay40 W w k h
  · exact mkpay35 W w k h
  · exact mkpay36 W w k h
  · exact mkpay39 W w k h
  · exact mkpay44 W w k h
  · exact mkpay45 W w k h
  · exact mkpay41 W w k h
  · exact mkpay42 W w k h
  · exact mkpay43 W w k h
  · exact mkpay37 W w k h

set_option maxHeartbeats 1600000 in
set_option maxRecDepth 100000 in
theorem draw6_any (W w : World) (k : Nat) (h : Cod W w k) (hk0 : 0 < k) (hK : KindsAt w) : Calls Tryz.prog 7 #[.pointer (some ⟨k, 0, none⟩)] w fun e w' => ∃ K, Kind12 K ∧ MadePv W w k K e w' := by
  have hk := h.lt
  have hbase := h.bel.size
  have HC0 := hidden (h.alloc (.cells #[.int .i64 0, .slice none 0 0, .int .i64 0, .slice none 0 0, .int .i64 0, .slice none 0 0, .int .i64 0, .slice none 0 0, .int .i64 0, .slice none 0 0, .int .i64 0, .slice none 0 0, .int .i64 0, .slice none 0 0, .slice none 0 0, .slice none 0 0] 45))
  have HR0 := hidden (PvIn.new w zeroP 45)
  have HG0 := hidden (World.grownBy_alloc w (.cells #[.int .i64 0, .slice none 0 0, .int .i64 0, .slice none 0 0, .int .i64 0, .slice none 0 0, .int .i64 0, .slice none 0 0, .int .i64 0, .slice none 0 0, .int .i64 0, .slice none 0 0, .int .i64 0, .slice none 0 0, .slice none 0 0, .slice none 0 0] 45) (some k))
  have HK0 := hidden (hK.below ((Below.refl _ w).alloc (Nat.le_refl _) (.cells #[.int .i64 0, .slice none 0 0, .int .i64 0, .slice none 0 0, .int .i64 0, .slice none 0 0, .int .i64 0, .slice none 0 0, .int .i64 0, .slice none 0 0, .int .i64 0, .slice none 0 0, .int .i64 0, .slice none 0 0, .slice none 0 0, .slice none 0 0] 45)))
  clear h hK
  go_enter Tryz.func7, Tryz.ntmps7
  go_wp2_with (first
    | (go_at_call 18; (with_reducible refine (next_any W _ k HC0.out 12 ?_).mono ?_); omega; rintro e w1 ⟨r, rfl, r0, r1, hc, hg⟩; obtain ⟨r, rfl⟩ := Int.eq_ofNat_of_zero_le r0; have HC1 := hidden hc; have HR1 : Hid (PvIn w1 w.heap.size zeroP) := hidden (HR0.out.grown hg (by simp; omega)); have HG1 := hidden (grown_trans HG0.out hg); have hcell := (HK0.out.grown hg hk0) r (by omega); have hr12 : r < 12 := (by omega); have HS1 : Hid (w.heap.size + 1 ≤ w1.heap.size) := hidden (by have := hg.size; simpa using this); have HMP := hidden (mkpay_any W w1 k hc r (by omega)); have HK12 := hidden (kindsL_12 r (by omega)); generalize kindsL.getD r 0 = K at *; clear hc hg HC0 HR0 HG0 HK0)
    | (go_at_call 17; (with_reducible refine (HMP.out).mono ?_); rintro e w2 ⟨x, C, rfl, ht, hp, hrow, hl, hn2, hs2, hts, hc, hg, hnum⟩; have HP2 := hidden hp; have HW2 := hidden hrow; have HL2 := hidden (And.intro hl (And.intro hn2 (And.intro hs2 (And.intro hts ht)))); have HR2 := hidden (HR1.out.grown hg (by simp; omega)); have HG2 := hidden (grown_trans HG1.out hg); have HC2 := hidden hc; obtain ⟨y0, y1, y2, y3, y4, y5, y6, y7, y8, y9, y10, y11, y12, y13, y14, y15, z0_, z1_, z2_, z3_, z4_, z5_, z6_, z7_, z8_, z9_, z10_, z11_, z12_, z13_, z14_, z15_, zf⟩ := HR2.out.any; clear ht hp hrow hl hn2 hs2 hts hc hg hcell)
    | fail)
  have hs := setPv_grown w2 w.heap.size x
  have hz := setPv_in HR2.out x
  have hsz := HS1.out
  have h1 := HP2.out.step (Kpt.low hs (by omega))
  have h2 := HW2.out.low hs (by omega)
  have h3 := HC2.out.grown hs (by simp; omega) (by intro j hj; simp at hj; omega)
  have h4 := grown_own HG2.out hs (by intro j hj; simp at hj; omega)
  obtain ⟨l1, l2, l3, l4, l5⟩ := HL2.out
  simp only [setPv] at hz h1 h2 h3 h4
  exact ret_pv1 (g := w.heap.size) rfl rfl rfl hz ⟨K, HK12.out, x, C, rfl, l5, h1.mono (by omega), h2.mono (by omega), l1, l2, l3, l4, h3, h4, hnum⟩
end Go.Proofs.YtbpmanbpmlkmnaaGreatDoor

namespace Go.Proofs.YtbpmanbpmlkmnaaGreatDoor
open Go.RowKit
set_option linter.unusedVariables false

/-- A raw payload lies at block g from its first cell on. -/
structure RwI (w : World) (g : Nat) (t : Int) (q : Option Addr) (n d : Nat) : Prop where
  c0 : w.cell? ⟨g, 0, none⟩ = some (.int .i64 t)
  c1 : w.cell? ⟨g, 1, none⟩ = some (.bool false)
  c2 : w.cell? ⟨g, 2, none⟩ = some (.slice q n d)
  fr : ∀ j, w.frozen? ⟨g, j, none⟩ = false
theorem RwI.lt {w : World} {g : Nat} {t : Int} {q : Option Addr} {n d : Nat} (h : RwI w g t q n d) : g < w.heap.size := World.block_lt_of_cell? w _ h.c0
theorem RwI.grown {w w' : World} {g : Nat} {t : Int} {q : Option Addr} {n d : Nat} {row : Option Nat} (h : RwI w g t q n d) (hg : w.grownBy w' row) (hne : some g ≠ row) : RwI w' g t q n d :=
  ⟨hg.cell h.c0 hne, hg.cell h.c1 hne, hg.cell h.c2 hne, fun j => (World.frozen?_of_block (a := ⟨g, j, none⟩) (hg.block g h.lt hne)).trans (h.fr j)⟩
theorem RwI.below {w w' : World} {g : Nat} {t : Int} {q : Option Addr} {n d : Nat} (h : RwI w g t q n d) (hb : Below w.heap.size w w') : RwI w' g t q n d := h.grown (row := none) (grown_of_below hb none) (by simp)
theorem RwI.new (w : World) (t : Int) (q : Option Addr) (n d : Nat) (T : TypeId) : RwI (w.alloc (.cells #[.int .i64 t, .bool false, .slice q n d] T)) w.heap.size t q n d :=
  ⟨by go_simp, by go_simp, by go_simp, fun j => by go_simp⟩
theorem RwI.set2 {w : World} {g : Nat} {t : Int} {q : Option Addr} {n d : Nat} (h : RwI w g t q n d) (q' : Option Addr) (n' d' : Nat) : RwI (w.setCell ⟨g, 2, none⟩ (.slice q' n' d')) g t q' n' d' := by
  obtain ⟨c0, c1, c2, fr⟩ := h
  exact ⟨by go_simp, by go_simp, by go_simp, fun j => by rw [World.frozen?_setCell]; exact fr j⟩
/-- Behind the first raw payload. -/
structure R4 (w W : World) (k g B : Nat) (t : Int) (q : Option Addr) (n d : Nat) (L : List Int) : Prop where
  r : RwI W g t q n d
  f : Frs W B q n d L
  lt : k < B
  lb : B ≤ g
  l : n ≤ 8000
  c : Cod w W k
  b : Below w.heap.size w W
/-- An element of the five raw payloads. -/
def RawAt (W : World) (G j : Nat) : Prop := ∃ (t : Int) (cr : Bool) (p : Option Addr) (n c : Nat) (xs : List Int), W.cell? ⟨G, j * 3, none⟩ = some (.int .i64 t) ∧ W.cell? ⟨G, j * 3 + 1, none⟩ = some (.bool cr) ∧ W.cell? ⟨G, j * 3 + 2, none⟩ = some (.slice p n c) ∧ Byt W p n c xs ∧ n ≤ 1048576
theorem RawAt.below {W W' : World} {G j : Nat} (h : RawAt W G j) (hb : Below W.heap.size W W') : RawAt W' G j := by
  obtain ⟨t, cr, p, n, c, xs, h0, h1, h2, h3, h4⟩ := h
  exact ⟨t, cr, p, n, c, xs, cell_below hb _ _ h0, cell_below hb _ _ h1, cell_below hb _ _ h2, h3.below hb, h4⟩
theorem raws5 (w : World) (t1 t2 t3 t4 t5 : Int) (b1 b2 b3 b4 b5 : Bool) (p1 p2 p3 p4 p5 : Option Addr) (n1 n2 n3 n4 n5 c1 c2 c3 c4 c5 : Nat) (x1 x2 x3 x4 x5 : List Int) (T : TypeId)
    (h1 : Byt w p1 n1 c1 x1) (h2 : Byt w p2 n2 c2 x2) (h3 : Byt w p3 n3 c3 x3) (h4 : Byt w p4 n4 c4 x4) (h5 : Byt w p5 n5 c5 x5) (l1 : n1 ≤ 1048576) (l2 : n2 ≤ 1048576) (l3 : n3 ≤ 1048576) (l4 : n4 ≤ 1048576) (l5 : n5 ≤ 1048576) :
    ∀ j, j < 5 → RawAt (w.alloc (.cells #[.int .i64 t1, .bool b1, .slice p1 n1 c1, .int .i64 t2, .bool b2, .slice p2 n2 c2, .int .i64 t3, .bool b3, .slice p3 n3 c3, .int .i64 t4, .bool b4, .slice p4 n4 c4, .int .i64 t5, .bool b5, .slice p5 n5 c5] T)) w.heap.size j := by
  intro j hj
  have : j = 0 ∨ j = 1 ∨ j = 2 ∨ j = 3 ∨ j = 4 := by omega
  rcases this with rfl | rfl | rfl | rfl | rfl
  · exact ⟨t1, b1, p1, n1, c1, x1, by rw [World.cell?_alloc_at _ _ _ _ rfl]; rfl, by rw [World.cell?_alloc_at _ _ _ _ rfl]; rfl, by rw [World.cell?_alloc_at _ _ _ _ rfl]; rfl, h1.alloc _, l1⟩
  · exact ⟨t2, b2, p2, n2, c2, x2, by rw [World.cell?_alloc_at _ _ _ _ rfl]; rfl, by rw [World.cell?_alloc_at _ _ _ _ rfl]; rfl, by rw [World.cell?_alloc_at _ _ _ _ rfl]; rfl, h2.alloc _, l2⟩
  · exact ⟨t3, b3, p3, n3, c3, x3, by rw [World.cell?_alloc_at _ _ _ _ rfl]; rfl, by rw [World.cell?_alloc_at _ _ _ _ rfl]; rfl, by rw [World.cell?_alloc_at _ _ _ _ rfl]; rfl, h3.alloc _, l3⟩
  · exact ⟨t4, b4, p4, n4, c4, x4, by rw [World.cell?_alloc_at _ _ _ _ rfl]; rfl, by rw [World.cell?_alloc_at _ _ _ _ rfl]; rfl, by rw [World.cell?_alloc_at _ _ _ _ rfl]; rfl, h4.alloc _, l4⟩
  · exact ⟨t5, b5, p5, n5, c5, x5, by rw [World.cell?_alloc_at _ _ _ _ rfl]; rfl, by rw [World.cell?_alloc_at _ _ _ _ rfl]; rfl, by rw [World.cell?_alloc_at _ _ _ _ rfl]; rfl, h5.alloc _, l5⟩

/-- Behind the change. -/
structure R7 (w W : World) (g g' : Nat) (t : Int) (q : Option Addr) (n d : Nat) (L : List Int) (q' : Option Addr) (n' d' : Nat) (ys : List Int) : Prop where
  r : RwI W g t q n d
  r' : RwI W g' t q' n' d'
  y : Byt W q n d L
  y' : Byt W q' n' d' ys
  l : n ≤ 8000
  l' : n' ≤ 8001
  b : Below w.heap.size w W
theorem R7.below {w W W' : World} {g g' : Nat} {t : Int} {q : Option Addr} {n d : Nat} {L : List Int} {q' : Option Addr} {n' d' : Nat} {ys : List Int} (h : R7 w W g g' t q n d L q' n' d' ys) (hb : Below W.heap.size W W') : R7 w W' g g' t q n d L q' n' d' ys :=
  ⟨h.r.below hb, h.r'.below hb, h.y.below hb, h.y'.below hb, h.l, h.l', h.b.trans (hb.mono h.b.size)⟩
theorem R4.change {w W : World} {k g B : Nat} {t : Int} {q : Option Addr} {n d : Nat} {L : List Int} (h : R4 w W k g B t q n d L) :
    Calls Tryz.prog 8 #[.pointer (some ⟨k, 0, none⟩), .slice q n d] (W.alloc (.cells #[.int .i64 t, .bool false, .slice q n d] 27)) fun e w' => ∃ q' n' d' ys, e = .returned (.slice q' n' d') ∧ RwI w' W.heap.size t q n d ∧ R7 w (w'.setCell ⟨W.heap.size, 2, none⟩ (.slice q' n' d')) g W.heap.size t q n d L q' n' d' ys := by
  have hal := (Below.refl W.heap.size W).alloc (Nat.le_refl _) (.cells #[.int .i64 t, .bool false, .slice q n d] 27)
  have hsz : (W.alloc (.cells #[.int .i64 t, .bool false, .slice q n d] 27)).heap.size = W.heap.size + 1 := by simp
  have hn := RwI.new W t q n d 27
  have hr := h.r.below hal
  have hf := h.f
  have hg8 := h.r.lt
  have hl := h.l
  refine (change_bod w _ k (h.c.below hal) q n d L (hf.below hal).byt (by omega)).mono ?_
  generalize W.alloc (.cells #[.int .i64 t, .bool false, .slice q n d] 27) = V at *
  rintro e w' ⟨q', n', d', ys, rfl, hbod, hn', hcod, hg⟩
  have hlt := h.lt
  have hlb := h.lb
  have hr' : RwI w' W.heap.size t q n d := hn.grown hg (by simp; omega)
  have hb : Below w.heap.size w w' := (h.b.trans (hal.mono h.b.size)).grown hg (h.b.trans (hal.mono h.b.size)).size (fun j e => by cases e; exact h.c.base)
  have hst := grown_set w' W.heap.size 2 (.slice q' n' d')
  refine ⟨q', n', d', ys, rfl, hr', (hr.grown hg (by simp; omega)).grown hst (by simp; omega), hr'.set2 q' n' d', ?_, ?_, hl, by omega, hb.setCell ?_ _⟩
  · refine (hf.keep (fun a v ha hv => ?_)).byt
    have h0 := World.block_lt_of_cell? W _ hv
    have h5 := cell_below hal _ _ hv
    have h6 := hg.cell h5 (by simp; omega)
    exact hst.cell h6 (by simp; omega)
  · exact (hbod.grown hst (OffB.low (by omega))).byt
  · show w.heap.size ≤ W.heap.size
    exact h.b.size

set_option maxHeartbeats 6400000 in
set_option maxRecDepth 100000 in
theorem payloadReads_walk (t0 : Int) (p1 : Option Addr) (n1 c1 : Nat) (xs1 : List Int) (p2 : Option Addr) (n2 c2 : Nat) (xs2 : List Int) (w : World) (g0 : -9223372036854775808 ≤ t0 ∧ t0 ≤ 9223372036854775807) (h1 : Byt w p1 n1 c1 xs1) (r1 : c1 ≤ 1048576) (h2 : Byt w p2 n2 c2 xs2) (r2 : c2 ≤ 1048576) (hK : KindsAt w) :
    Calls Tryz.prog 3 #[.int .i64 t0, .slice p1 n1 c1, .slice p2 n2 c2] w fun e w' => e = .returned (.bool true) ∧ Below w.heap.size w w' := by
  have HA := hidden (awake06_any w)
  have hn1 := h1.cap
  have H1 := hidden (fun W (hW : Below w.heap.size w W) => h1.below hW)
  have H2 := hidden h2
  have HKD := hidden (fun W (hW : Below w.heap.size w W) => hK.below hW)
  have hpos : 0 < w.heap.size := World.block_lt_of_cell? w _ (hK 0 (by omega))
  obtain ⟨i, hi⟩ : ∃ i : Nat, t0 % 12 = (i : Int) := Int.eq_ofNat_of_zero_le (Int.emod_nonneg _ (by omega))
  have hi12 : i < 12 := by omega
  have HMOD := hidden (fun W => (mod_any t0 12 W g0 (by omega)).mono (R' := fun e w' => e = .returned (.int .i64 (i : Int)) ∧ w' = W) (fun e w' ⟨x, y⟩ => ⟨by rw [x, hi], y.symm⟩))
  have hi' : (i : Int) < 12 := by omega
  clear h1 h2 hK hi
  go_enter Tryz.func3, Tryz.ntmps3
  go_upto_region 4 with (first
    | (go_at_call 4; (with_reducible refine (HA.out).mono ?_); rintro e w1 ⟨rfl, hb⟩; have HB1 := hidden hb; have HNW := hidden (show Calls Tryz.prog 5 #[.slice p2 n2 c2, .int .i64 160] w1 _ from new_any w p2 n2 c2 xs2 w1 H2.out hb 160 (by omega)); clear hb)
    | (go_at_call 5; (with_reducible refine (HNW.out).mono ?_); rintro e w2 ⟨rfl, hcod, hbel⟩; have HC := hidden hcod; have HB2 := hidden (HB1.out.trans (hbel.mono HB1.out.size)); clear hcod hbel HNW)
    | fail)
  have hk := HC.out.lt
  have hkb := HC.out.base
  generalize w1.heap.size = k at *
  have HDR := hidden (draw6_any w w2 k HC.out (by omega) (HKD.out w2 HB2.out))
  go_cut [8, 9] from 21 to 26 (fun p e wx => ∃ g B t q n d L, p = .pointer (some ⟨g, 0, none⟩) ∧ e = .int .i64 0 ∧ Hid (R4 w wx k g B t q n d L))
  case first => as_aux_lemma =>
    go_wp2_with (first
      | (go_at_call 7; (with_reducible refine (HDR.out).mono ?_); rintro e w3 ⟨K, hK12, x, C, rfl, ht, hp, hrow, hl, hn2, hs2, hts, hc, hg, hnum, hv⟩; subst ht; have hb3 := HB2.out.grown hg HB2.out.size (fun j e => by cases e; exact hkb); have HB3 := hidden hb3; have HC3 := hidden hc; have HBU := hidden (drawn_rbuild x C w3 hp.rd hnum hv hK12); clear hp hrow hl hn2 hs2 hts hc hg hnum hv hK12 HDR hb3)
      | (go_at_call 6; (with_reducible refine (HBU.out).mono ?_); rintro e w5 ⟨q, d, L, rfl, hf, hL, hb⟩; have hal := (Below.refl w5.heap.size w5).alloc (Nat.le_refl _) (.cells #[.int .i64 x.t, .bool false, .slice q L.length d] 27); have HR := hidden (show R4 w (w5.alloc (.cells #[.int .i64 x.t, .bool false, .slice q L.length d] 27)) k w5.heap.size w3.heap.size x.t q L.length d L from ⟨RwI.new _ _ _ _ _ _, hf.below hal, HC3.out.lt, hb.size, hL, (HC3.out.below hb).below hal, HB3.out.trans ((hb.mono HB3.out.size).trans (hal.mono (HB3.out.trans (hb.mono HB3.out.size)).size))⟩); clear hf hL hb hal)
      | fail)
    go_meet
    case rel => exact ⟨w5.heap.size, w3.heap.size, x.t, q, L.length, d, L, rfl, rfl, HR⟩
  case rest =>
    obtain ⟨g8, B, t, q, n, d, L, rfl, rfl, HR⟩ := hcut
    clear HDR HC HB2 HB1 HA
    rename World => wx
    have HCH := hidden HR.out.change
    obtain ⟨a0, a1, a2, af⟩ := HR.out.r
    have hlt8 : g8 < wx.heap.size := HR.out.r.lt
    have hne8 : g8 ≠ wx.heap.size := Nat.ne_of_lt hlt8
    go_upto_region 7 with (first
      | (go_at_call 8; (with_reducible refine (HCH.out).mono ?_); rintro e w6 ⟨q', n', d', ys, rfl, hr, h7⟩; have H7 := hidden h7; obtain ⟨b0, b1, b2, bf⟩ := hr; clear h7 a0 a1 a2 af)
      | fail)
    generalize w6.setCell ⟨wx.heap.size, 2, none⟩ (.slice q' n' d') = w7 at *
    generalize wx.heap.size = g10 at *
    clear b0 b1 b2 bf hlt8 hne8 HCH HR
    have HK7 := hidden ((HKD.out _ H7.out.b) i hi12)
    have HY1 := hidden (H1.out _ H7.out.b)
    generalize kindsL.getD i 0 = K at *
    have HSS := hidden (fun W (hW : Below w7.heap.size w7 W) => (⟨cell_below hW _ _ H7.out.r.c0, cell_below hW _ _ H7.out.r.c1, cell_below hW _ _ H7.out.r.c2, cell_below hW _ _ H7.out.r'.c0, cell_below hW _ _ H7.out.r'.c1, cell_below hW _ _ H7.out.r'.c2, cell_below hW _ _ HK7.out⟩ : W.cell? ⟨g8, 0, none⟩ = some (.int .i64 t) ∧ W.cell? ⟨g8, 1, none⟩ = some (.bool false) ∧ W.cell? ⟨g8, 2, none⟩ = some (.slice q n d) ∧ W.cell? ⟨g10, 0, none⟩ = some (.int .i64 t) ∧ W.cell? ⟨g10, 1, none⟩ = some (.bool false) ∧ W.cell? ⟨g10, 2, none⟩ = some (.slice q' n' d') ∧ W.cell? ⟨0, i, none⟩ = some (.int .i64 K)))
    have HR5 := hidden (raws5 w7 t0 K t t K false false false false true p1 p1 q q' q n1 n1 n n' n c1 c1 d d' d xs1 xs1 L ys L 27 HY1.out HY1.out H7.out.y H7.out.y' H7.out.y (by omega) (by omega) (by have := H7.out.l; omega) (by have := H7.out.l'; omega) (by have := H7.out.l; omega))
    have HRM := hidden (show Below w.heap.size w (w7.alloc (.cells #[.int .i64 t0, .bool false, .slice p1 n1 c1, .int .i64 K, .bool false, .slice p1 n1 c1, .int .i64 t, .bool false, .slice q n d, .int .i64 t, .bool false, .slice q' n' d', .int .i64 K, .bool true, .slice q n d] 27)) ∧ ∀ j, j < 5 → RawAt (w7.alloc (.cells #[.int .i64 t0, .bool false, .slice p1 n1 c1, .int .i64 K, .bool false, .slice p1 n1 c1, .int .i64 t, .bool false, .slice q n d, .int .i64 t, .bool false, .slice q' n' d', .int .i64 K, .bool true, .slice q n d] 27)) w7.heap.size j from ⟨H7.out.b.alloc H7.out.b.size _, HR5.out⟩)
    have HRN := hidden (show Below w.heap.size w (w7.alloc (.cells #[.int .i64 t0, .bool false, .slice p1 n1 c1, .int .i64 K, .bool false, .slice p1 n1 c1, .int .i64 t, .bool false, .slice q n d, .int .i64 t, .bool false, .slice q' n' d', .int .i64 K, .bool true, .slice q n d] 27)).drew ∧ ∀ j, j < 5 → RawAt (w7.alloc (.cells #[.int .i64 t0, .bool false, .slice p1 n1 c1, .int .i64 K, .bool false, .slice p1 n1 c1, .int .i64 t, .bool false, .slice q n d, .int .i64 t, .bool false, .slice q' n' d', .int .i64 K, .bool true, .slice q n d] 27)).drew w7.heap.size j from ⟨HRM.out.1.trans (drew_below ⟨1, rfl⟩), fun j hj => (HRM.out.2 j hj).below (drew_below ⟨1, rfl⟩)⟩)
    clear HR5
    have HS1 := hidden (HSS.out w7.drew (drew_below ⟨1, rfl⟩))
    have HS2 := hidden (HSS.out (w7.alloc (.cells #[.int .i64 t0, .bool false, .slice p1 n1 c1, .int .i64 K, .bool false, .slice p1 n1 c1, .int .i64 t, .bool false, .slice q n d, .int .i64 t, .bool false, .slice q' n' d', .int .i64 K, .bool true, .slice q n d] 27)).drew (((Below.refl w7.heap.size w7).alloc (Nat.le_refl _) _).trans (drew_below ⟨1, rfl⟩)))
    go_cut [51, 52, 53] from 33 to 50 (fun s l z wx => ∃ G, s = .slice (some ⟨G, 0, none⟩) 5 5 ∧ l = .int .i64 5 ∧ z = .int .i64 0 ∧ Hid (Below w.heap.size w wx ∧ ∀ j, j < 5 → RawAt wx G j))
    case first =>
      go_region_held3 (fun W => W.cell? ⟨g8, 0, none⟩ = some (.int .i64 t) ∧ W.cell? ⟨g8, 1, none⟩ = some (.bool false) ∧ W.cell? ⟨g8, 2, none⟩ = some (.slice q n d) ∧ W.cell? ⟨g10, 0, none⟩ = some (.int .i64 t) ∧ W.cell? ⟨g10, 1, none⟩ = some (.bool false) ∧ W.cell? ⟨g10, 2, none⟩ = some (.slice q' n' d') ∧ W.cell? ⟨0, i, none⟩ = some (.int .i64 K))
        (first | (with_reducible exact HS1.out) | (with_reducible exact HS2.out) | fail)
        (first
        | (go_at_call 9; (with_reducible refine (HMOD.out _).mono ?_); rintro e wm ⟨rfl, rfl⟩)
        | fail)
      all_goals
        go_wp2
        go_meet
      all_goals first | exact ⟨w7.heap.size, rfl, rfl, rfl, HRN⟩ | exact ⟨w7.heap.size, rfl, rfl, rfl, HRM⟩
    case rest =>
      obtain ⟨G, rfl, rfl, rfl, HZ⟩ := hcut
      clear H7 HSS HK7 HY1 H1 H2 HMOD HRM HRN HS1 HS2
      rename World => w8
      have HBW := hidden HZ.out.1
      have HCELL := hidden HZ.out.2
      clear HZ
      have HBZ := hidden (Below.refl w8.heap.size w8)
      go_wp2
      go_loopw [53] (fun i wr => ∃ j : Nat, j ≤ 5 ∧ i = .int .i64 j ∧ Below w8.heap.size w8 wr) (fun i _ => 5 - (intOf i).toNat)
      case atStart => exact ⟨0, by omega, rfl, HBZ.out⟩
      case round =>
        obtain ⟨j, hj, rfl, hb⟩ := hrel
        rename World => wr
        by_cases hlt : j < 5
        · have hlt' : (j : Int) < 5 := by omega
          obtain ⟨t, cr, p, n, c, xs, e0, e1, e2, hy, hn⟩ := (HCELL.out j hlt).below hb
          obtain ⟨E, hE⟩ : ∃ E, parseE t xs = E := ⟨_, rfl⟩
          have HP := hidden (fun W (hW : Below wr.heap.size wr W) => pk_all t p n c xs cr W (hy.below hW) hn)
          have HQ := hidden (fun W (hW : Below wr.heap.size wr W) => rpparse_any t p n c xs cr W (hy.below hW) hn)
          rw [hE] at HP HQ
          have HBR := hidden hb
          have hee : (E != E) = false := by simp
          clear hE hy hb HBZ
          go_upto_region 10 with fail
          have HWA := hidden ((Below.refl wr.heap.size wr).alloc (Nat.le_refl _) (.cells #[.int .i64 t, .bool cr, .slice p n c] 27))
          have d0 : (wr.alloc (.cells #[.int .i64 t, .bool cr, .slice p n c] 27)).cell? ⟨wr.heap.size, 0, none⟩ = some (.int .i64 t) := by go_simp
          have d1 : (wr.alloc (.cells #[.int .i64 t, .bool cr, .slice p n c] 27)).cell? ⟨wr.heap.size, 1, none⟩ = some (.bool cr) := by go_simp
          have d2 : (wr.alloc (.cells #[.int .i64 t, .bool cr, .slice p n c] 27)).cell? ⟨wr.heap.size, 2, none⟩ = some (.slice p n c) := by go_simp
          generalize wr.alloc (.cells #[.int .i64 t, .bool cr, .slice p n c] 27) = wa at *
          have HD := hidden (fun W (hW : Below wa.heap.size wa W) => (⟨cell_below hW _ _ d0, cell_below hW _ _ d1, cell_below hW _ _ d2⟩ : W.cell? ⟨wr.heap.size, 0, none⟩ = some (.int .i64 t) ∧ W.cell? ⟨wr.heap.size, 1, none⟩ = some (.bool cr) ∧ W.cell? ⟨wr.heap.size, 2, none⟩ = some (.slice p n c)))
          clear e0 e1 e2
          go_upto_region 11 with (first
            | (go_at_call 10; (with_reducible refine (HP.out wa HWA.out).mono ?_); intro e wb hpv; obtain ⟨y, rfl, hb1, hs1⟩ := SV.of hpv; have HB1 := hidden hb1; have HS1 := hidden hs1; clear hpv hb1 hs1)
            | fail)
          generalize wb.alloc (.cells #[.int .i64 y.t, .slice y.pr.p y.pr.n y.pr.c, .int .i64 y.eg, .slice y.ed.p y.ed.n y.ed.c, .int .i64 y.ik, .slice y.id.p y.id.n y.id.c, .int .i64 y.am, .slice y.ad.p y.ad.n y.ad.c, .int .i64 y.np, .slice y.ns.p y.ns.n y.ns.c, .int .i64 y.nt, .slice y.nd.p y.nd.n y.nd.c, .int .i64 y.dp, .slice y.ds.p y.ds.n y.ds.c, .slice y.se.p y.se.n y.se.c, .slice y.da.p y.da.n y.da.c] 45) = wc at *
          generalize wb.heap.size = g13 at *
          clear d0 d1 d2
          obtain ⟨d0, d1, d2⟩ := HD.out wc HB1.out
          have HWC := hidden (HWA.out.trans (HB1.out.mono HWA.out.size))
          go_upto_region 12 with (first
            | (go_at_call 11; (with_reducible refine (HQ.out wc HWC.out).mono ?_); intro e wd hpv; obtain ⟨z, rfl, hb2, hs2⟩ := SV.of hpv; have HB2 := hidden hb2; have HS2 := hidden hs2; clear hpv hb2 hs2)
            | fail)
          generalize wd.alloc (.cells #[.int .i64 z.t, .slice z.pr.p z.pr.n z.pr.c, .int .i64 z.eg, .slice z.ed.p z.ed.n z.ed.c, .int .i64 z.ik, .slice z.id.p z.id.n z.id.c, .int .i64 z.am, .slice z.ad.p z.ad.n z.ad.c, .int .i64 z.np, .slice z.ns.p z.ns.n z.ns.c, .int .i64 z.nt, .slice z.nd.p z.nd.n z.nd.c, .int .i64 z.dp, .slice z.ds.p z.ds.n z.ds.c, .slice z.se.p z.se.n z.se.c, .slice z.da.p z.da.n z.da.c] 45) = we at *
          generalize wd.heap.size = g15 at *
          have HS3 := hidden (HS1.out.below HB2.out)
          have HWE := hidden (HWC.out.trans (HB2.out.mono HWC.out.size))
          obtain ⟨y0, y1, y2, y3, y4, y5, y6, y7, y8, y9, y10, y11, y12, y13, y14, y15, yf⟩ := HS3.out.p
          obtain ⟨z0, z1, z2, z3, z4, z5, z6, z7, z8, z9, z10, z11, z12, z13, z14, z15, zf⟩ := HS2.out.p
          clear d0 d1 d2
          go_wp2_with (first
            | (go_at_call 12; (with_reducible refine (HS3.out.same HS2.out).mono ?_); rintro e wf ⟨rfl, hb⟩; have HBF := hidden (HWE.out.trans (hb.mono HWE.out.size)); clear hb)
            | fail)
          go_roundw
          case rel => exact ⟨j + 1, by omega, by go_num, HBR.out.trans (HBF.out.mono HBR.out.size)⟩
          case measure => simp [intOf]; omega
        · obtain rfl : j = 5 := by omega
          have HBR := hidden hb
          clear hb
          go_wp2
          go_ret
          exact ⟨rfl, HBW.out.trans (HBR.out.mono HBW.out.size)⟩
end Go.Proofs.YtbpmanbpmlkmnaaGreatDoor

namespace Go.Proofs.YtbpmanbpmlkmnaaGreatDoor
open Go.RowKit

abbrev listKinds : List (String × DataW Unit) := [("ipsecgate/ipsecgatemake.Kinds", Rows.laid_ipsecgate_ipsecgatemake_Kinds)]
abbrev stepsKinds : Nat := 19
theorem gKinds : Tryz.prog.globalNamed "ipsecgate/ipsecgatemake.Kinds" = some 0 := by kernel_rfl
theorem tKinds : (Tryz.prog.globals[0]?).map (·.type) = some 48 := by kernel_rfl
theorem cellsI : Tryz.prog.cellsOf 3 = 1 := by kernel_rfl
theorem cells12 : Tryz.prog.cellsOf 48 = 12 := by kernel_rfl

theorem laidKinds {W : World} (h : laidMetH Tryz.prog listKinds W) : KindsAt W ∧ 0 < W.heap.size := by
  rw [MakeChecks.laidMetH_plain _ _ _ (by kernel_rfl)] at h
  have h' : laidMet Tryz.prog [("ipsecgate/ipsecgatemake.Kinds", Lib.tabData .i64 kindsL)] W := h
  have hT := Lib.tabIs_of_head gKinds tKinds Tryz.underlying48 Tryz.underlying3 cellsI cells12 h'
  have hc := fun j (hj : j < 12) => hT.cell gKinds j hj
  exact ⟨hc, Nat.lt_of_le_of_lt (Nat.zero_le _) (World.block_lt_of_cell? W _ (hc 0 (by omega)))⟩
theorem doorKinds (os : Os) (args : Array Value) : laidMetH Tryz.prog listKinds ((World.doorLaid Tryz.prog stepsKinds os).forCall (fun _ _ => 0) ⟨#[], args, []⟩).memory :=
  laidMetH_of_parts3 (fuel := 8) (laidMet_of_run' 8 (by kernel_rfl) (by kernel_rfl)) (by kernel_rfl) (by kernel_rfl)
end Go.Proofs.YtbpmanbpmlkmnaaGreatDoor
