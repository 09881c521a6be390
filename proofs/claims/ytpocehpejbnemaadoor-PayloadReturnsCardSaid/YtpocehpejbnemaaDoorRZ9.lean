/-
  Codes.Payload, a type at a time.
  Codes.Payload, a type at a time.
  Codes.Payload, a type at a time.
  Codes.Payload, a type at a time.
-/
import Derived.Test.YtpocehpejbnemaaDoorRPayMk
import Derived.Test.YtpocehpejbnemaaDoorRZ19
import Derived.Deep.RegionLaw
import Derived.Deep.CutBlock
namespace Go.Proofs.YtpocehpejbnemaaDoor
open Go.RowKit
set_option linter.unusedVariables false

theorem next_pa {W w wr0 : World} {k : Nat} {x : Pv} (H : Hid (PyS W w wr0 k x)) (hk : k < w.heap.size) (wr : World) (h : PyS W w wr k x) (m : Int) (hm : 1 ≤ m ∧ m ≤ 9223372036854775807) :
    Calls Tryd.prog 28 #[.pointer (some ⟨k, 0, none⟩), .int .i64 m] wr fun e w' => ∃ r : Int, e = .returned (.int .i64 r) ∧ 0 ≤ r ∧ r < m ∧ PyS W w w' k x ∧ wr.grownBy w' (some k) := next_ps h hk m hm
theorem bytes_pa {W w wr0 : World} {k : Nat} {x : Pv} (H : Hid (PyS W w wr0 k x)) (hk : k < w.heap.size) (wr : World) (h : PyS W w wr k x) (n : Nat) (hn : n ≤ 100000) :
    Calls Tryd.prog 16 #[.pointer (some ⟨k, 0, none⟩), .int .i64 n] wr fun e w' => ∃ p c ys, e = .returned (.slice p n c) ∧ Bod w' (w.heap.size + 2) p n c ys ∧ PyS W w w' k x ∧ wr.grownBy w' (some k) := bytes_ps h hk n hn
theorem PyS.put {W w wx wy : World} {k : Nat} {x x' : Pv} (h : PyS W w wx k x) (hk : k < w.heap.size) (hb : W.heap.size ≤ w.heap.size) (hy : wx.grownBy wy (some (w.heap.size + 1))) (hS : PvIn wy (w.heap.size + 1) x') : PyS W w wy k x' :=
  ⟨h.cod.grown hy (by simp; omega) (by intro j hj; simp at hj; omega), grown_own h.gr hy (by intro j hj; simp at hj; omega), h.R.grown hy (by simp), hS, by have := h.ge; have := hy.size; omega⟩

theorem PvIn.setE {w : World} {g : Nat} {x : Pv} (h : PvIn w g x) (z : Int) (s : Sv) : PvIn ((w.setCell ⟨g, 2, none⟩ (.int .i64 z)).setCell ⟨g, 3, none⟩ (.slice s.p s.n s.c)) g { x with eg := z, ed := s } := by
  obtain ⟨c0, c1, c2, c3, c4, c5, c6, c7, c8, c9, c10, c11, c12, c13, c14, c15, fr⟩ := h
  exact ⟨by go_simp, by go_simp, by go_simp, by go_simp, by go_simp, by go_simp, by go_simp, by go_simp, by go_simp, by go_simp, by go_simp, by go_simp, by go_simp, by go_simp, by go_simp, by go_simp, fun j => by rw [World.frozen?_setCell, World.frozen?_setCell]; exact fr j⟩
theorem PvIn.setI {w : World} {g : Nat} {x : Pv} (h : PvIn w g x) (z : Int) (s : Sv) : PvIn ((w.setCell ⟨g, 4, none⟩ (.int .i64 z)).setCell ⟨g, 5, none⟩ (.slice s.p s.n s.c)) g { x with ik := z, id := s } := by
  obtain ⟨c0, c1, c2, c3, c4, c5, c6, c7, c8, c9, c10, c11, c12, c13, c14, c15, fr⟩ := h
  exact ⟨by go_simp, by go_simp, by go_simp, by go_simp, by go_simp, by go_simp, by go_simp, by go_simp, by go_simp, by go_simp, by go_simp, by go_simp, by go_simp, by go_simp, by go_simp, by go_simp, fun j => by rw [World.frozen?_setCell, World.frozen?_setCell]; exact fr j⟩
theorem PvIn.setA {w : World} {g : Nat} {x : Pv} (h : PvIn w g x) (z : Int) (s : Sv) : PvIn ((w.setCell ⟨g, 6, none⟩ (.int .i64 z)).setCell ⟨g, 7, none⟩ (.slice s.p s.n s.c)) g { x with am := z, ad := s } := by
  obtain ⟨c0, c1, c2, c3, c4, c5, c6, c7, c8, c9, c10, c11, c12, c13, c14, c15, fr⟩ := h
  exact ⟨by go_simp, by go_simp, by go_simp, by go_simp, by go_simp, by go_simp, by go_simp, by go_simp, by go_simp, by go_simp, by go_simp, by go_simp, by go_simp, by go_simp, by go_simp, by go_simp, fun j => by rw [World.frozen?_setCell, World.frozen?_setCell]; exact fr j⟩
theorem PvIn.setD {w : World} {g : Nat} {x : Pv} (h : PvIn w g x) (z : Int) (s : Sv) : PvIn ((w.setCell ⟨g, 12, none⟩ (.int .i64 z)).setCell ⟨g, 13, none⟩ (.slice s.p s.n s.c)) g { x with dp := z, ds := s } := by
  obtain ⟨c0, c1, c2, c3, c4, c5, c6, c7, c8, c9, c10, c11, c12, c13, c14, c15, fr⟩ := h
  exact ⟨by go_simp, by go_simp, by go_simp, by go_simp, by go_simp, by go_simp, by go_simp, by go_simp, by go_simp, by go_simp, by go_simp, by go_simp, by go_simp, by go_simp, by go_simp, by go_simp, fun j => by rw [World.frozen?_setCell, World.frozen?_setCell]; exact fr j⟩
theorem PvIn.setP {w : World} {g : Nat} {x : Pv} (h : PvIn w g x) (z : Int) (s : Sv) : PvIn ((w.setCell ⟨g, 8, none⟩ (.int .i64 z)).setCell ⟨g, 9, none⟩ (.slice s.p s.n s.c)) g { x with np := z, ns := s } := by
  obtain ⟨c0, c1, c2, c3, c4, c5, c6, c7, c8, c9, c10, c11, c12, c13, c14, c15, fr⟩ := h
  exact ⟨by go_simp, by go_simp, by go_simp, by go_simp, by go_simp, by go_simp, by go_simp, by go_simp, by go_simp, by go_simp, by go_simp, by go_simp, by go_simp, by go_simp, by go_simp, by go_simp, fun j => by rw [World.frozen?_setCell, World.frozen?_setCell]; exact fr j⟩
theorem PvIn.setN {w : World} {g : Nat} {x : Pv} (h : PvIn w g x) (a t : Int) (s d : Sv) : PvIn ((((w.setCell ⟨g, 8, none⟩ (.int .i64 a)).setCell ⟨g, 9, none⟩ (.slice s.p s.n s.c)).setCell ⟨g, 10, none⟩ (.int .i64 t)).setCell ⟨g, 11, none⟩ (.slice d.p d.n d.c)) g { x with np := a, ns := s, nt := t, nd := d } := by
  obtain ⟨c0, c1, c2, c3, c4, c5, c6, c7, c8, c9, c10, c11, c12, c13, c14, c15, fr⟩ := h
  exact ⟨by go_simp, by go_simp, by go_simp, by go_simp, by go_simp, by go_simp, by go_simp, by go_simp, by go_simp, by go_simp, by go_simp, by go_simp, by go_simp, by go_simp, by go_simp, by go_simp, fun j => by rw [World.frozen?_setCell, World.frozen?_setCell, World.frozen?_setCell, World.frozen?_setCell]; exact fr j⟩
theorem byt_at (w w' : World) (xs : List Int) (b : Nat) (hl : xs.length ≤ 1000) (hr : ∀ x ∈ xs, 0 ≤ x ∧ x ≤ 255) (hc : ∀ i (h : i < xs.length), w'.cell? ⟨b, i, none⟩ = some (.int .u8 xs[i])) : Byt w' (some ⟨b, 0, none⟩) xs.length xs.length xs :=
  ⟨rfl, Nat.le_refl _, by unfold maxLen; omega, hr, fun hn => ⟨b, 0, rfl, fun i hi => by
    rw [Nat.zero_add, hc i hi]
    simp [List.getD_eq_getElem?_getD, List.getElem?_eq_getElem hi]⟩⟩
/-- The two SPIs that a deletion is made of. -/
theorem two_sb (w w' : World) (k : Nat) (hk : k < w.heap.size) (hg : (((w.alloc (.cells #[.int .u8 1, .int .u8 2, .int .u8 3, .int .u8 4] 5)).alloc (.cells #[.int .u8 1, .int .u8 2, .int .u8 3, .int .u8 5] 5)).alloc (.cells #[.slice (some ⟨w.heap.size, 0, none⟩) 4 4, .slice (some ⟨w.heap.size + 1, 0, none⟩) 4 4] 22)).grownBy w' (some k)) (base : Nat) (hb : base ≤ w.heap.size) :
    ∀ w'', Kpt w' w'' base → RdG KSb DSb w'' (some ⟨w.heap.size + 1 + 1, 0, none⟩) 2 2 [⟨some ⟨w.heap.size, 0, none⟩, 4, 4, [1, 2, 3, 4]⟩, ⟨some ⟨w.heap.size + 1, 0, none⟩, 4, 4, [1, 2, 3, 5]⟩] := by
  intro w'' hk2
  have key : ∀ b j v, w.heap.size ≤ b → (((w.alloc (.cells #[.int .u8 1, .int .u8 2, .int .u8 3, .int .u8 4] 5)).alloc (.cells #[.int .u8 1, .int .u8 2, .int .u8 3, .int .u8 5] 5)).alloc (.cells #[.slice (some ⟨w.heap.size, 0, none⟩) 4 4, .slice (some ⟨w.heap.size + 1, 0, none⟩) 4 4] 22)).cell? ⟨b, j, none⟩ = some v → w''.cell? ⟨b, j, none⟩ = some v := fun b j v hbb h => hk2 _ _ (by show base ≤ b; omega) (hg.cell h (by simp; omega))
  have b1 : Byt w'' (some ⟨w.heap.size, 0, none⟩) 4 4 [1, 2, 3, 4] := byt_at w w'' [1, 2, 3, 4] _ (by decide) (by decide) (fun i hi => key _ _ _ (by omega) (by
    have : i = 0 ∨ i = 1 ∨ i = 2 ∨ i = 3 := by simp at hi; omega
    rcases this with rfl | rfl | rfl | rfl <;> go_simp))
  have b2 : Byt w'' (some ⟨w.heap.size + 1, 0, none⟩) 4 4 [1, 2, 3, 5] := byt_at w w'' [1, 2, 3, 5] _ (by decide) (by decide) (fun i hi => key _ _ _ (by omega) (by
    have : i = 0 ∨ i = 1 ∨ i = 2 ∨ i = 3 := by simp at hi; omega
    rcases this with rfl | rfl | rfl | rfl <;> go_simp))
  refine ⟨rfl, Nat.le_refl _, by unfold maxLen; omega, fun _ => ⟨_, rfl, fun j u hj => key _ _ _ (by omega) ?_⟩, fun x hx => ?_⟩
  · have hj' : ([.slice (some ⟨w.heap.size, 0, none⟩) 4 4, .slice (some ⟨w.heap.size + 1, 0, none⟩) 4 4] : List Value)[j]? = some u := hj
    have : j = 0 ∨ j = 1 := by have := (List.getElem?_eq_some_iff.1 hj').1; simp at this; omega
    rcases this with rfl | rfl
    all_goals
      simp at hj'
      subst hj'
      go_simp
  · simp at hx
    rcases hx with rfl | rfl
    · exact b1
    · exact b2
theorem lst34 (j : Nat) (hj : j < 2) : ∃ t : Int, (#[Value.int .i64 31, .int .i64 1024] : Array Value)[j]? = some (.int .i64 t) ∧ ([Value.int .i64 31, .int .i64 1024] : List Value)[j]? = some (.int .i64 t) ∧ 0 ≤ t ∧ t ≤ 65535 ∧ (t = 31 ∨ t = 1024) := by
  have : j = 0 ∨ j = 1 := by omega
  rcases this with rfl | rfl
  all_goals exact ⟨_, rfl, rfl, by omega, by omega, by omega⟩
theorem lst35 (j : Nat) (hj : j < 3) : ∃ t : Int, (#[Value.int .i64 2, .int .i64 3, .int .i64 11] : Array Value)[j]? = some (.int .i64 t) ∧ ([Value.int .i64 2, .int .i64 3, .int .i64 11] : List Value)[j]? = some (.int .i64 t) ∧ 0 ≤ t ∧ t ≤ 65535 ∧ (t = 2 ∨ t = 3 ∨ t = 11) := by
  have : j = 0 ∨ j = 1 ∨ j = 2 := by omega
  rcases this with rfl | rfl | rfl
  all_goals exact ⟨_, rfl, rfl, by omega, by omega, by omega⟩
theorem lst39 (j : Nat) (hj : j < 2) : ∃ t : Int, (#[Value.int .i64 2, .int .i64 14] : Array Value)[j]? = some (.int .i64 t) ∧ ([Value.int .i64 2, .int .i64 14] : List Value)[j]? = some (.int .i64 t) ∧ 0 ≤ t ∧ t ≤ 65535 ∧ (t = 2 ∨ t = 14) := by
  have : j = 0 ∨ j = 1 := by omega
  rcases this with rfl | rfl
  all_goals exact ⟨_, rfl, rfl, by omega, by omega, by omega⟩
theorem lst41 (j : Nat) (hj : j < 5) : ∃ t : Int, (#[Value.int .i64 14, .int .i64 16390, .int .i64 16388, .int .i64 24, .int .i64 16396] : Array Value)[j]? = some (.int .i64 t) ∧ ([Value.int .i64 14, .int .i64 16390, .int .i64 16388, .int .i64 24, .int .i64 16396] : List Value)[j]? = some (.int .i64 t) ∧ 0 ≤ t ∧ t ≤ 65535 ∧ (t = 14 ∨ t = 16390 ∨ t = 16388 ∨ t = 24 ∨ t = 16396) := by
  have : j = 0 ∨ j = 1 ∨ j = 2 ∨ j = 3 ∨ j = 4 := by omega
  rcases this with rfl | rfl | rfl | rfl | rfl
  all_goals exact ⟨_, rfl, rfl, by omega, by omega, by omega⟩
end Go.Proofs.YtpocehpejbnemaaDoor

namespace Go.Proofs.YtpocehpejbnemaaDoor
open Go.RowKit
set_option linter.unusedVariables false

set_option maxHeartbeats 3200000 in
set_option maxRecDepth 100000 in
theorem mkpay34 (W w : World) (k : Nat) (h : Cod W w k) : Calls Tryd.prog 27 #[.pointer (some ⟨k, 0, none⟩), .int .i64 34] w (MadePv W w k 34) := by
  have hk := h.lt
  have hbase := h.bel.size
  have H0 := hidden (PyS.new h 34)
  clear h
  go_enter Tryd.func27, Tryd.ntmps27
  go_upto_region 2 with fail
  generalize hw0 : (w.alloc (.cells #[.int .i64 0, .slice none 0 0, .int .i64 0, .slice none 0 0, .int .i64 0, .slice none 0 0, .int .i64 0, .slice none 0 0, .int .i64 0, .slice none 0 0, .int .i64 0, .slice none 0 0, .int .i64 0, .slice none 0 0, .slice none 0 0, .slice none 0 0] 40)).alloc (.cells #[.int .i64 34, .slice none 0 0, .int .i64 0, .slice none 0 0, .int .i64 0, .slice none 0 0, .int .i64 0, .slice none 0 0, .int .i64 0, .slice none 0 0, .int .i64 0, .slice none 0 0, .int .i64 0, .slice none 0 0, .slice none 0 0, .slice none 0 0] 40) = w0 at *
  clear hw0
  have hk0 : k < w0.heap.size := by have := H0.out.ge; omega
  go_upto_region 2 with fail
  go_upto_block 0 with fail
  go_cut [] from 9 to 114 (fun wx => ∃ (t : Int) (p : Option Addr) (n c : Nat) (ys : List Int), PyS W w wx k ⟨34, nilV, t, ⟨p, n, c⟩, 0, nilV, 0, nilV, 0, nilV, 0, nilV, 0, nilV, nilV, nilV⟩ ∧ (0 ≤ t ∧ t ≤ 65535) ∧ ((t = 31 ∨ t = 1024) ∧ n = 8) ∧ ∀ w', Kpt wx w' (w.heap.size + 2) → Byt w' p n c ys)
  case first =>
    go_wp2_with fail
    go_region_law (first
      | (go_simp; go_at_call_of 28 (Value.int IntKind.i64 2); (with_reducible refine (next_pa H0 hk _ ?_ _ ?_).mono ?_); (repeat' (first | with_reducible exact H0.out | (with_reducible refine PyS.alloc ?_ _) | (with_reducible refine PyS.drew ?_))); omega; rintro e wA ⟨j, rfl, j0, j1, hdA, hgA⟩; obtain ⟨j, rfl⟩ := Int.eq_ofNat_of_zero_le j0; obtain ⟨t, hta, htl, t0, t1, tv⟩ := lst34 j (by omega); (try have hcA : wA.cell? ⟨w0.heap.size, j, none⟩ = some (.int .i64 t) := row_cell w0 wA k _ _ j _ htl hk0 (grown_trans (grown_drewN _ 1 _) hgA)))
      | (go_simp; go_at_call 16; (refine (bytes_pa H0 hk _ ?_ 8 ?_).mono ?_); (first | exact hdA | exact hdA.alloc _); omega; rintro e wY ⟨p, c, ys, rfl, hbY, hdY, hgY⟩; have hkA := hdA.cod.lt; (try have hcY1 : wY.cell? ⟨w0.heap.size, j, none⟩ = some (.int .i64 t) := hgY.cell hcA (by simp; omega)); (try have hcY3 : wY.cell? ⟨wA.heap.size, j, none⟩ = some (.int .i64 t) := row_cell wA wY k _ _ j _ htl hkA hgY); have hn1 : ¬ w.heap.size + 1 = wY.heap.size := (by have := hdY.ge; omega); have hn2 : ¬ w.heap.size = wY.heap.size := (by have := hdY.ge; omega); have hn3 : ¬ wY.heap.size = w.heap.size + 1 := (by have := hdY.ge; omega); have hn4 : ¬ wY.heap.size = w.heap.size := (by have := hdY.ge; omega); have hq1 : w.heap.size + 1 < wY.heap.size := (by have := hdY.ge; omega); have hq2 : w.heap.size < wY.heap.size := (by have := hdY.ge; omega); have s2 := hdY.S.c2; have s3 := hdY.S.c3; have sf := hdY.S.fr; simp only [zeroP, nilV] at s2 s3; have HDY := hidden hdY; have HBY := hidden hbY; clear hdY hbY))
    all_goals
      clear s2 s3 sf
      go_wp2
      go_meet
    all_goals first
      | (have q := hcY1; clear q; exact ⟨t, p, 8, c, ys, (HDY.out.put hk hbase (wy := ((wY.setCell ⟨w.heap.size + 1, 2, none⟩ (.int .i64 t)).setCell ⟨w.heap.size + 1, 3, none⟩ (.slice p 8 c))) (grown_trans (grown_set _ _ _ _) (grown_set _ _ _ _)) (x' := ⟨34, nilV, t, ⟨p, 8, c⟩, 0, nilV, 0, nilV, 0, nilV, 0, nilV, 0, nilV, nilV, nilV⟩) (HDY.out.S.setE t ⟨p, 8, c⟩)), ⟨t0, t1⟩, ⟨tv, rfl⟩, fun w' hk' => HBY.out.kp (((Kpt.low (grown_set _ _ _ _) (by omega)).trans (Kpt.low (grown_set _ _ _ _) (by omega))).trans hk')⟩)
      | (have q := hcY3; clear q; exact ⟨t, p, 8, c, ys, (HDY.out.put hk hbase (wy := ((wY.setCell ⟨w.heap.size + 1, 2, none⟩ (.int .i64 t)).setCell ⟨w.heap.size + 1, 3, none⟩ (.slice p 8 c))) (grown_trans (grown_set _ _ _ _) (grown_set _ _ _ _)) (x' := ⟨34, nilV, t, ⟨p, 8, c⟩, 0, nilV, 0, nilV, 0, nilV, 0, nilV, 0, nilV, nilV, nilV⟩) (HDY.out.S.setE t ⟨p, 8, c⟩)), ⟨t0, t1⟩, ⟨tv, rfl⟩, fun w' hk' => HBY.out.kp (((Kpt.low (grown_set _ _ _ _) (by omega)).trans (Kpt.low (grown_set _ _ _ _) (by omega))).trans hk')⟩)
      | (exact ⟨t, p, 8, c, ys, (HDY.out.put hk hbase (wy := ((wY.setCell ⟨w.heap.size + 1, 2, none⟩ (.int .i64 t)).setCell ⟨w.heap.size + 1, 3, none⟩ (.slice p 8 c))) (grown_trans (grown_set _ _ _ _) (grown_set _ _ _ _)) (x' := ⟨34, nilV, t, ⟨p, 8, c⟩, 0, nilV, 0, nilV, 0, nilV, 0, nilV, 0, nilV, nilV, nilV⟩) (HDY.out.S.setE t ⟨p, 8, c⟩)).alloc _, ⟨t0, t1⟩, ⟨tv, rfl⟩, fun w' hk' => HBY.out.kp ((((Kpt.low (grown_set _ _ _ _) (by omega)).trans (Kpt.low (grown_set _ _ _ _) (by omega))).trans (Kpt.alloc _ _ _)).trans hk')⟩)
  case rest =>
    obtain ⟨t, p, n, c, ys, hd, ht, hv, hy⟩ := hcut
    have HV := hidden hv
    clear hv
    have H2 := hidden hd
    have HY := hidden hy
    have HT := hidden ht
    rename World => w2
    clear hd hy ht
    obtain ⟨y0, y1, y2, y3, y4, y5, y6, y7, y8, y9, y10, y11, y12, y13, y14, y15, z0_, z1_, z2_, z3_, z4_, z5_, z6_, z7_, z8_, z9_, z10_, z11_, z12_, z13_, z14_, z15_, zf⟩ := H2.out.R.any
    obtain ⟨s0, s1, s2, s3, s4, s5, s6, s7, s8, s9, s10, s11, s12, s13, s14, s15, sf⟩ := H2.out.S
    simp only [nilV] at s0 s1 s2 s3 s4 s5 s6 s7 s8 s9 s10 s11 s12 s13 s14 s15
    go_wp2
    have hz := H2.out.ret hk hbase (wy := w2) (grown_refl _ _) ⟨34, nilV, t, ⟨p, n, c⟩, 0, nilV, 0, nilV, 0, nilV, 0, nilV, 0, nilV, nilV, nilV⟩
    simp only [setPv, nilV] at hz
    exact ret_pv1 (g := w.heap.size) rfl rfl rfl hz.1 (made_plain (C := { C0 with ed := ys }) rfl rfl rfl (fun w' hk' => ⟨rdg_nil _ _ _, HY.out w' hk', byt_nil _, byt_nil _, byt_nil _, byt_nil _, rdg_nil _ _ _, rdg_nil _ _ _, byt_nil _⟩) hz.2.1 hz.2.2.1 hz.2.2.2 ((vld34 rfl).2 HV.out))
end Go.Proofs.YtpocehpejbnemaaDoor

namespace Go.Proofs.YtpocehpejbnemaaDoor
open Go.RowKit
set_option linter.unusedVariables false

set_option maxHeartbeats 3200000 in
set_option maxRecDepth 100000 in
theorem mkpay35 (W w : World) (k : Nat) (h : Cod W w k) : Calls Tryd.prog 27 #[.pointer (some ⟨k, 0, none⟩), .int .i64 35] w (MadePv W w k 35) := by
  have hk := h.lt
  have hbase := h.bel.size
  have H0 := hidden (PyS.new h 35)
  clear h
  go_enter Tryd.func27, Tryd.ntmps27
  go_upto_region 2 with fail
  generalize hw0 : (w.alloc (.cells #[.int .i64 0, .slice none 0 0, .int .i64 0, .slice none 0 0, .int .i64 0, .slice none 0 0, .int .i64 0, .slice none 0 0, .int .i64 0, .slice none 0 0, .int .i64 0, .slice none 0 0, .int .i64 0, .slice none 0 0, .slice none 0 0, .slice none 0 0] 40)).alloc (.cells #[.int .i64 35, .slice none 0 0, .int .i64 0, .slice none 0 0, .int .i64 0, .slice none 0 0, .int .i64 0, .slice none 0 0, .int .i64 0, .slice none 0 0, .int .i64 0, .slice none 0 0, .int .i64 0, .slice none 0 0, .slice none 0 0, .slice none 0 0] 40) = w0 at *
  clear hw0
  have hk0 : k < w0.heap.size := by have := H0.out.ge; omega
  go_upto_region 2 with fail
  go_upto_block 0 with fail
  go_cut [] from 9 to 114 (fun wx => ∃ (t : Int) (p : Option Addr) (n c : Nat) (ys : List Int), PyS W w wx k ⟨35, nilV, 0, nilV, t, ⟨p, n, c⟩, 0, nilV, 0, nilV, 0, nilV, 0, nilV, nilV, nilV⟩ ∧ (0 ≤ t ∧ t ≤ 65535) ∧ ((t = 2 ∨ t = 3 ∨ t = 11) ∧ 1 ≤ n ∧ n ≤ 100) ∧ ∀ w', Kpt wx w' (w.heap.size + 2) → Byt w' p n c ys)
  case first =>
    go_wp2_with fail
    go_region_law (first
      | (go_simp; go_at_call_of 28 (Value.int IntKind.i64 3); (with_reducible refine (next_pa H0 hk _ ?_ _ ?_).mono ?_); (repeat' (first | with_reducible exact H0.out | (with_reducible refine PyS.alloc ?_ _) | (with_reducible refine PyS.drew ?_))); omega; rintro e wA ⟨j, rfl, j0, j1, hdA, hgA⟩; obtain ⟨j, rfl⟩ := Int.eq_ofNat_of_zero_le j0; obtain ⟨t, hta, htl, t0, t1, tv⟩ := lst35 j (by omega); (try have hcA : wA.cell? ⟨w0.heap.size, j, none⟩ = some (.int .i64 t) := row_cell w0 wA k _ _ j _ htl hk0 (grown_trans (grown_drewN _ 1 _) hgA)))
      | (go_simp; go_at_call_of 28 (Value.int IntKind.i64 6); (with_reducible refine (next_pa H0 hk _ ?_ _ ?_).mono ?_); (first | exact hdA | exact hdA.alloc _); omega; rintro e wB ⟨v, rfl, v0, v1, hdB, hgB⟩; obtain ⟨v, rfl⟩ := Int.eq_ofNat_of_zero_le v0; have hwv : IntKind.i64.wrap (1 + (v : Int)) = ((1 + v : Nat) : Int) := (by rw [IntKind.wrap_i64]; omega); have hkA := hdA.cod.lt; (try have hcB : wB.cell? ⟨w0.heap.size, j, none⟩ = some (.int .i64 t) := hgB.cell hcA (by simp; omega)); (try have hcC : wB.cell? ⟨wA.heap.size, j, none⟩ = some (.int .i64 t) := row_cell wA wB k _ _ j _ htl hkA hgB))
      | (go_simp; go_at_call 16; (refine (bytes_pa H0 hk _ ?_ (1 + v) ?_).mono ?_); (first | exact hdB | exact hdB.alloc _); omega; rintro e wY ⟨p, c, ys, rfl, hbY, hdY, hgY⟩; have hkB := hdB.cod.lt; (try have hcY1 : wY.cell? ⟨w0.heap.size, j, none⟩ = some (.int .i64 t) := hgY.cell hcB (by simp; omega)); (try have hcY2 : wY.cell? ⟨wA.heap.size, j, none⟩ = some (.int .i64 t) := hgY.cell hcC (by simp; omega)); (try have hcY3 : wY.cell? ⟨wB.heap.size, j, none⟩ = some (.int .i64 t) := row_cell wB wY k _ _ j _ htl hkB hgY); have hn1 : ¬ w.heap.size + 1 = wY.heap.size := (by have := hdY.ge; omega); have hn2 : ¬ w.heap.size = wY.heap.size := (by have := hdY.ge; omega); have hn3 : ¬ wY.heap.size = w.heap.size + 1 := (by have := hdY.ge; omega); have hn4 : ¬ wY.heap.size = w.heap.size := (by have := hdY.ge; omega); have hq1 : w.heap.size + 1 < wY.heap.size := (by have := hdY.ge; omega); have hq2 : w.heap.size < wY.heap.size := (by have := hdY.ge; omega); have s4 := hdY.S.c4; have s5 := hdY.S.c5; have sf := hdY.S.fr; simp only [zeroP, nilV] at s4 s5; have HDY := hidden hdY; have HBY := hidden hbY; clear hdY hbY))
    all_goals
      clear s4 s5 sf
      go_wp2
      go_meet
    all_goals first
      | (have q := hcY1; clear q; exact ⟨t, p, (1 + v), c, ys, (HDY.out.put hk hbase (wy := ((wY.setCell ⟨w.heap.size + 1, 4, none⟩ (.int .i64 t)).setCell ⟨w.heap.size + 1, 5, none⟩ (.slice p (1 + v) c))) (grown_trans (grown_set _ _ _ _) (grown_set _ _ _ _)) (x' := ⟨35, nilV, 0, nilV, t, ⟨p, (1 + v), c⟩, 0, nilV, 0, nilV, 0, nilV, 0, nilV, nilV, nilV⟩) (HDY.out.S.setI t ⟨p, (1 + v), c⟩)), ⟨t0, t1⟩, ⟨tv, by omega, by omega⟩, fun w' hk' => HBY.out.kp (((Kpt.low (grown_set _ _ _ _) (by omega)).trans (Kpt.low (grown_set _ _ _ _) (by omega))).trans hk')⟩)
      | (have q := hcY2; clear q; exact ⟨t, p, (1 + v), c, ys, (HDY.out.put hk hbase (wy := ((wY.setCell ⟨w.heap.size + 1, 4, none⟩ (.int .i64 t)).setCell ⟨w.heap.size + 1, 5, none⟩ (.slice p (1 + v) c))) (grown_trans (grown_set _ _ _ _) (grown_set _ _ _ _)) (x' := ⟨35, nilV, 0, nilV, t, ⟨p, (1 + v), c⟩, 0, nilV, 0, nilV, 0, nilV, 0, nilV, nilV, nilV⟩) (HDY.out.S.setI t ⟨p, (1 + v), c⟩)), ⟨t0, t1⟩, ⟨tv, by omega, by omega⟩, fun w' hk' => HBY.out.kp (((Kpt.low (grown_set _ _ _ _) (by omega)).trans (Kpt.low (grown_set _ _ _ _) (by omega))).trans hk')⟩)
      | (have q := hcY3; clear q; exact ⟨t, p, (1 + v), c, ys, (HDY.out.put hk hbase (wy := ((wY.setCell ⟨w.heap.size + 1, 4, none⟩ (.int .i64 t)).setCell ⟨w.heap.size + 1, 5, none⟩ (.slice p (1 + v) c))) (grown_trans (grown_set _ _ _ _) (grown_set _ _ _ _)) (x' := ⟨35, nilV, 0, nilV, t, ⟨p, (1 + v), c⟩, 0, nilV, 0, nilV, 0, nilV, 0, nilV, nilV, nilV⟩) (HDY.out.S.setI t ⟨p, (1 + v), c⟩)), ⟨t0, t1⟩, ⟨tv, by omega, by omega⟩, fun w' hk' => HBY.out.kp (((Kpt.low (grown_set _ _ _ _) (by omega)).trans (Kpt.low (grown_set _ _ _ _) (by omega))).trans hk')⟩)
      | (exact ⟨t, p, (1 + v), c, ys, (HDY.out.put hk hbase (wy := ((wY.setCell ⟨w.heap.size + 1, 4, none⟩ (.int .i64 t)).setCell ⟨w.heap.size + 1, 5, none⟩ (.slice p (1 + v) c))) (grown_trans (grown_set _ _ _ _) (grown_set _ _ _ _)) (x' := ⟨35, nilV, 0, nilV, t, ⟨p, (1 + v), c⟩, 0, nilV, 0, nilV, 0, nilV, 0, nilV, nilV, nilV⟩) (HDY.out.S.setI t ⟨p, (1 + v), c⟩)).alloc _, ⟨t0, t1⟩, ⟨tv, by omega, by omega⟩, fun w' hk' => HBY.out.kp ((((Kpt.low (grown_set _ _ _ _) (by omega)).trans (Kpt.low (grown_set _ _ _ _) (by omega))).trans (Kpt.alloc _ _ _)).trans hk')⟩)
  case rest =>
    obtain ⟨t, p, n, c, ys, hd, ht, hv, hy⟩ := hcut
    have HV := hidden hv
    clear hv
    have H2 := hidden hd
    have HY := hidden hy
    have HT := hidden ht
    rename World => w2
    clear hd hy ht
    obtain ⟨y0, y1, y2, y3, y4, y5, y6, y7, y8, y9, y10, y11, y12, y13, y14, y15, z0_, z1_, z2_, z3_, z4_, z5_, z6_, z7_, z8_, z9_, z10_, z11_, z12_, z13_, z14_, z15_, zf⟩ := H2.out.R.any
    obtain ⟨s0, s1, s2, s3, s4, s5, s6, s7, s8, s9, s10, s11, s12, s13, s14, s15, sf⟩ := H2.out.S
    simp only [nilV] at s0 s1 s2 s3 s4 s5 s6 s7 s8 s9 s10 s11 s12 s13 s14 s15
    go_wp2
    have hz := H2.out.ret hk hbase (wy := w2) (grown_refl _ _) ⟨35, nilV, 0, nilV, t, ⟨p, n, c⟩, 0, nilV, 0, nilV, 0, nilV, 0, nilV, nilV, nilV⟩
    simp only [setPv, nilV] at hz
    exact ret_pv1 (g := w.heap.size) rfl rfl rfl hz.1 (made_plain (C := { C0 with id := ys }) rfl rfl rfl (fun w' hk' => ⟨rdg_nil _ _ _, byt_nil _, HY.out w' hk', byt_nil _, byt_nil _, byt_nil _, rdg_nil _ _ _, rdg_nil _ _ _, byt_nil _⟩) hz.2.1 hz.2.2.1 hz.2.2.2 ((vld35 rfl).2 HV.out))
end Go.Proofs.YtpocehpejbnemaaDoor

namespace Go.Proofs.YtpocehpejbnemaaDoor
open Go.RowKit
set_option linter.unusedVariables false

set_option maxHeartbeats 3200000 in
set_option maxRecDepth 100000 in
theorem mkpay36 (W w : World) (k : Nat) (h : Cod W w k) : Calls Tryd.prog 27 #[.pointer (some ⟨k, 0, none⟩), .int .i64 36] w (MadePv W w k 36) := by
  have hk := h.lt
  have hbase := h.bel.size
  have H0 := hidden (PyS.new h 36)
  clear h
  go_enter Tryd.func27, Tryd.ntmps27
  go_upto_region 2 with fail
  generalize hw0 : (w.alloc (.cells #[.int .i64 0, .slice none 0 0, .int .i64 0, .slice none 0 0, .int .i64 0, .slice none 0 0, .int .i64 0, .slice none 0 0, .int .i64 0, .slice none 0 0, .int .i64 0, .slice none 0 0, .int .i64 0, .slice none 0 0, .slice none 0 0, .slice none 0 0] 40)).alloc (.cells #[.int .i64 36, .slice none 0 0, .int .i64 0, .slice none 0 0, .int .i64 0, .slice none 0 0, .int .i64 0, .slice none 0 0, .int .i64 0, .slice none 0 0, .int .i64 0, .slice none 0 0, .int .i64 0, .slice none 0 0, .slice none 0 0, .slice none 0 0] 40) = w0 at *
  clear hw0
  have hk0 : k < w0.heap.size := by have := H0.out.ge; omega
  go_upto_region 2 with fail
  go_upto_block 0 with fail
  go_cut [] from 9 to 114 (fun wx => ∃ (t : Int) (p : Option Addr) (n c : Nat) (ys : List Int), PyS W w wx k ⟨36, nilV, 0, nilV, t, ⟨p, n, c⟩, 0, nilV, 0, nilV, 0, nilV, 0, nilV, nilV, nilV⟩ ∧ (0 ≤ t ∧ t ≤ 65535) ∧ ((t = 2 ∨ t = 3 ∨ t = 11) ∧ 1 ≤ n ∧ n ≤ 100) ∧ ∀ w', Kpt wx w' (w.heap.size + 2) → Byt w' p n c ys)
  case first =>
    go_wp2_with fail
    go_region_law (first
      | (go_simp; go_at_call_of 28 (Value.int IntKind.i64 3); (with_reducible refine (next_pa H0 hk _ ?_ _ ?_).mono ?_); (repeat' (first | with_reducible exact H0.out | (with_reducible refine PyS.alloc ?_ _) | (with_reducible refine PyS.drew ?_))); omega; rintro e wA ⟨j, rfl, j0, j1, hdA, hgA⟩; obtain ⟨j, rfl⟩ := Int.eq_ofNat_of_zero_le j0; obtain ⟨t, hta, htl, t0, t1, tv⟩ := lst35 j (by omega); (try have hcA : wA.cell? ⟨w0.heap.size, j, none⟩ = some (.int .i64 t) := row_cell w0 wA k _ _ j _ htl hk0 (grown_trans (grown_drewN _ 1 _) hgA)))
      | (go_simp; go_at_call_of 28 (Value.int IntKind.i64 6); (with_reducible refine (next_pa H0 hk _ ?_ _ ?_).mono ?_); (first | exact hdA | exact hdA.alloc _); omega; rintro e wB ⟨v, rfl, v0, v1, hdB, hgB⟩; obtain ⟨v, rfl⟩ := Int.eq_ofNat_of_zero_le v0; have hwv : IntKind.i64.wrap (1 + (v : Int)) = ((1 + v : Nat) : Int) := (by rw [IntKind.wrap_i64]; omega); have hkA := hdA.cod.lt; (try have hcB : wB.cell? ⟨w0.heap.size, j, none⟩ = some (.int .i64 t) := hgB.cell hcA (by simp; omega)); (try have hcC : wB.cell? ⟨wA.heap.size, j, none⟩ = some (.int .i64 t) := row_cell wA wB k _ _ j _ htl hkA hgB))
      | (go_simp; go_at_call 16; (refine (bytes_pa H0 hk _ ?_ (1 + v) ?_).mono ?_); (first | exact hdB | exact hdB.alloc _); omega; rintro e wY ⟨p, c, ys, rfl, hbY, hdY, hgY⟩; have hkB := hdB.cod.lt; (try have hcY1 : wY.cell? ⟨w0.heap.size, j, none⟩ = some (.int .i64 t) := hgY.cell hcB (by simp; omega)); (try have hcY2 : wY.cell? ⟨wA.heap.size, j, none⟩ = some (.int .i64 t) := hgY.cell hcC (by simp; omega)); (try have hcY3 : wY.cell? ⟨wB.heap.size, j, none⟩ = some (.int .i64 t) := row_cell wB wY k _ _ j _ htl hkB hgY); have hn1 : ¬ w.heap.size + 1 = wY.heap.size := (by have := hdY.ge; omega); have hn2 : ¬ w.heap.size = wY.heap.size := (by have := hdY.ge; omega); have hn3 : ¬ wY.heap.size = w.heap.size + 1 := (by have := hdY.ge; omega); have hn4 : ¬ wY.heap.size = w.heap.size := (by have := hdY.ge; omega); have hq1 : w.heap.size + 1 < wY.heap.size := (by have := hdY.ge; omega); have hq2 : w.heap.size < wY.heap.size := (by have := hdY.ge; omega); have s4 := hdY.S.c4; have s5 := hdY.S.c5; have sf := hdY.S.fr; simp only [zeroP, nilV] at s4 s5; have HDY := hidden hdY; have HBY := hidden hbY; clear hdY hbY))
    all_goals
      clear s4 s5 sf
      go_wp2
      go_meet
    all_goals first
      | (have q := hcY1; clear q; exact ⟨t, p, (1 + v), c, ys, (HDY.out.put hk hbase (wy := ((wY.setCell ⟨w.heap.size + 1, 4, none⟩ (.int .i64 t)).setCell ⟨w.heap.size + 1, 5, none⟩ (.slice p (1 + v) c))) (grown_trans (grown_set _ _ _ _) (grown_set _ _ _ _)) (x' := ⟨36, nilV, 0, nilV, t, ⟨p, (1 + v), c⟩, 0, nilV, 0, nilV, 0, nilV, 0, nilV, nilV, nilV⟩) (HDY.out.S.setI t ⟨p, (1 + v), c⟩)), ⟨t0, t1⟩, ⟨tv, by omega, by omega⟩, fun w' hk' => HBY.out.kp (((Kpt.low (grown_set _ _ _ _) (by omega)).trans (Kpt.low (grown_set _ _ _ _) (by omega))).trans hk')⟩)
      | (have q := hcY2; clear q; exact ⟨t, p, (1 + v), c, ys, (HDY.out.put hk hbase (wy := ((wY.setCell ⟨w.heap.size + 1, 4, none⟩ (.int .i64 t)).setCell ⟨w.heap.size + 1, 5, none⟩ (.slice p (1 + v) c))) (grown_trans (grown_set _ _ _ _) (grown_set _ _ _ _)) (x' := ⟨36, nilV, 0, nilV, t, ⟨p, (1 + v), c⟩, 0, nilV, 0, nilV, 0, nilV, 0, nilV, nilV, nilV⟩) (HDY.out.S.setI t ⟨p, (1 + v), c⟩)), ⟨t0, t1⟩, ⟨tv, by omega, by omega⟩, fun w' hk' => HBY.out.kp (((Kpt.low (grown_set _ _ _ _) (by omega)).trans (Kpt.low (grown_set _ _ _ _) (by omega))).trans hk')⟩)
      | (have q := hcY3; clear q; exact ⟨t, p, (1 + v), c, ys, (HDY.out.put hk hbase (wy := ((wY.setCell ⟨w.heap.size + 1, 4, none⟩ (.int .i64 t)).setCell ⟨w.heap.size + 1, 5, none⟩ (.slice p (1 + v) c))) (grown_trans (grown_set _ _ _ _) (grown_set _ _ _ _)) (x' := ⟨36, nilV, 0, nilV, t, ⟨p, (1 + v), c⟩, 0, nilV, 0, nilV, 0, nilV, 0, nilV, nilV, nilV⟩) (HDY.out.S.setI t ⟨p, (1 + v), c⟩)), ⟨t0, t1⟩, ⟨tv, by omega, by omega⟩, fun w' hk' => HBY.out.kp (((Kpt.low (grown_set _ _ _ _) (by omega)).trans (Kpt.low (grown_set _ _ _ _) (by omega))).trans hk')⟩)
      | (exact ⟨t, p, (1 + v), c, ys, (HDY.out.put hk hbase (wy := ((wY.setCell ⟨w.heap.size + 1, 4, none⟩ (.int .i64 t)).setCell ⟨w.heap.size + 1, 5, none⟩ (.slice p (1 + v) c))) (grown_trans (grown_set _ _ _ _) (grown_set _ _ _ _)) (x' := ⟨36, nilV, 0, nilV, t, ⟨p, (1 + v), c⟩, 0, nilV, 0, nilV, 0, nilV, 0, nilV, nilV, nilV⟩) (HDY.out.S.setI t ⟨p, (1 + v), c⟩)).alloc _, ⟨t0, t1⟩, ⟨tv, by omega, by omega⟩, fun w' hk' => HBY.out.kp ((((Kpt.low (grown_set _ _ _ _) (by omega)).trans (Kpt.low (grown_set _ _ _ _) (by omega))).trans (Kpt.alloc _ _ _)).trans hk')⟩)
  case rest =>
    obtain ⟨t, p, n, c, ys, hd, ht, hv, hy⟩ := hcut
    have HV := hidden hv
    clear hv
    have H2 := hidden hd
    have HY := hidden hy
    have HT := hidden ht
    rename World => w2
    clear hd hy ht
    obtain ⟨y0, y1, y2, y3, y4, y5, y6, y7, y8, y9, y10, y11, y12, y13, y14, y15, z0_, z1_, z2_, z3_, z4_, z5_, z6_, z7_, z8_, z9_, z10_, z11_, z12_, z13_, z14_, z15_, zf⟩ := H2.out.R.any
    obtain ⟨s0, s1, s2, s3, s4, s5, s6, s7, s8, s9, s10, s11, s12, s13, s14, s15, sf⟩ := H2.out.S
    simp only [nilV] at s0 s1 s2 s3 s4 s5 s6 s7 s8 s9 s10 s11 s12 s13 s14 s15
    go_wp2
    have hz := H2.out.ret hk hbase (wy := w2) (grown_refl _ _) ⟨36, nilV, 0, nilV, t, ⟨p, n, c⟩, 0, nilV, 0, nilV, 0, nilV, 0, nilV, nilV, nilV⟩
    simp only [setPv, nilV] at hz
    exact ret_pv1 (g := w.heap.size) rfl rfl rfl hz.1 (made_plain (C := { C0 with id := ys }) rfl rfl rfl (fun w' hk' => ⟨rdg_nil _ _ _, byt_nil _, HY.out w' hk', byt_nil _, byt_nil _, byt_nil _, rdg_nil _ _ _, rdg_nil _ _ _, byt_nil _⟩) hz.2.1 hz.2.2.1 hz.2.2.2 ((vld36 rfl).2 HV.out))
end Go.Proofs.YtpocehpejbnemaaDoor
