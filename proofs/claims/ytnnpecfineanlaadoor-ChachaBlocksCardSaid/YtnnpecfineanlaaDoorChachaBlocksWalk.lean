/-
  The law ChachaBlocks, walked: it returns true for every input, and only adds memory of its own.
-/
import Derived.Test.YtnnpecfineanlaaDoorChaKey
import Derived.Test.YtnnpecfineanlaaDoorRChaXor
import Derived.Deep.Cut
import Derived.Deep.CutRange
namespace Go.Proofs.YtnnpecfineanlaaDoor
open Go.RowKit
set_option linter.unusedVariables false
set_option linter.unusedSimpArgs false

/-- What Block and Xor return: so many bytes, and whether. -/
def BTo (nn : Nat) (R : List Int) (ok : Bool) (w : World) (e : Ending) (w' : World) : Prop :=
  ∃ p' c', e = .returned (.tuple #[.slice p' nn c', .bool ok]) ∧ Byt w' p' nn c' R ∧ Below w.heap.size w w'
theorem BTo.no {w w' : World} {e : Ending} (h : e = .returned (.tuple #[.slice none 0 0, .bool false]) ∧ w = w') : BTo 0 [] false w e w' := by
  obtain ⟨he, rfl⟩ := h
  exact ⟨none, 0, he, Byt.nil _ _ _ (Nat.zero_le _), Below.refl _ _⟩
theorem block_pair (p q : Option Addr) (n c m d : Nat) (key nonce : List Int) (ctr : Int) (w : World) (h : Byt w p n c key) (h' : Byt w q m d nonce) (hQ : QAt w) :
    ∃ nn R ok, Hid (∀ W, Below w.heap.size w W → Calls Tryd.prog 16 #[.slice p n c, .int .u32 ctr, .slice q m d] W (BTo nn R ok W)) ∧
      Hid (∀ W, Below w.heap.size w W → Calls Tryd.prog 17 #[.slice p n c, .int .u32 ctr, .slice q m d] W (BTo nn R ok W)) := by
  have a1 := h.le
  have a2 := h'.le
  by_cases hf : n = 32 ∧ m = 12
  · obtain ⟨rfl, rfl⟩ := hf
    refine ⟨64, blockC key ctr nonce, true, fun W hW => ?_, fun W hW => ?_⟩
    · refine (cblock_yes p q c d key nonce ctr W (h.below hW) (h'.below hW) (hQ.below hW hQ.lt)).mono ?_
      rintro e w' ⟨B, rfl, hB, hb, hbl⟩
      exact ⟨_, _, rfl, hb.byt 64 (blockC_len _ _ _) (by decide) (blockC_rng _ _ _), hbl⟩
    · refine (rblock_yes p q c d key nonce ctr W (h.below hW) (h'.below hW)).mono ?_
      rintro e w' ⟨v, rfl, ho, hbl⟩
      obtain ⟨p', c', rfl, hy⟩ := ho.bytN (N := 64) rfl (blockC_len _ _ _) (blockC_rng _ _ _)
      exact ⟨p', c', rfl, hy, hbl⟩
  · exact ⟨0, [], false, fun W hW => (cblock_no p q n c m d ctr W (by omega) (by omega) hf).mono fun e w' h => BTo.no h, fun W hW => (rblock_no p q n c m d ctr W (by omega) (by omega) hf).mono fun e w' h => BTo.no h⟩
theorem xor_pair (p q r : Option Addr) (n c m d k e : Nat) (key nonce b : List Int) (ctr : Int) (w : World) (h : Byt w p n c key) (h' : Byt w q m d nonce) (hb : Byt w r k e b) (hk : k ≤ 1000000) (hQ : QAt w) (hc0 : 0 ≤ ctr) (hc1 : ctr < 4294967296) :
    ∃ nn R ok, Hid (∀ W, Below w.heap.size w W → Calls Tryd.prog 18 #[.slice p n c, .int .u32 ctr, .slice q m d, .slice r k e] W (BTo nn R ok W)) ∧
      Hid (∀ W, Below w.heap.size w W → Calls Tryd.prog 19 #[.slice p n c, .int .u32 ctr, .slice q m d, .slice r k e] W (BTo nn R ok W)) := by
  have a1 := h.le
  have a2 := h'.le
  by_cases hf : n = 32 ∧ m = 12
  · obtain ⟨rfl, rfl⟩ := hf
    refine ⟨k, xorC key ctr nonce b, true, fun W hW => ?_, fun W hW => ?_⟩
    · exact cxor_to p q r c d k e key nonce b ctr W (h.below hW) (h'.below hW) (hb.below hW) hk (hQ.below hW hQ.lt) hc0 hc1
    · refine (rxor_yes p q r c d k e key nonce b ctr W (h.below hW) (h'.below hW) (hb.below hW) hk hc0 hc1).mono ?_
      rintro en w' ⟨v, rfl, ho, hbl⟩
      obtain ⟨p', c', rfl, hy⟩ := ho.bytN (N := k) rfl (by rw [xorC_len]; exact hb.len) (xorC_rng _ _ _ _)
      exact ⟨p', c', rfl, hy, hbl⟩
  · exact ⟨0, [], false, fun W hW => (cxor_no p q n c m d ctr r k e W (by omega) (by omega) hf).mono fun e w' h => BTo.no h, fun W hW => (rxor_no p q n c m d ctr r k e W (by omega) (by omega) hf).mono fun e w' h => BTo.no h⟩
/-- What is known of a pair. -/
def PairAt (w : World) (g j : Nat) (ctr : Int) (r : Option Addr) (k e : Nat) : Prop :=
  ∃ (P1 : Option Addr) (N1 C1 : Nat) (P2 : Option Addr) (N2 C2 nn : Nat) (R : List Int) (ok : Bool) (mm : Nat) (S : List Int) (good : Bool),
    w.cell? ⟨g, j * 2, none⟩ = some (.slice P1 N1 C1) ∧ w.cell? ⟨g, j * 2 + 1, none⟩ = some (.slice P2 N2 C2) ∧
    Hid (∀ W, Below w.heap.size w W → Calls Tryd.prog 16 #[.slice P1 N1 C1, .int .u32 ctr, .slice P2 N2 C2] W (BTo nn R ok W)) ∧
    Hid (∀ W, Below w.heap.size w W → Calls Tryd.prog 17 #[.slice P1 N1 C1, .int .u32 ctr, .slice P2 N2 C2] W (BTo nn R ok W)) ∧
    Hid (∀ W, Below w.heap.size w W → Calls Tryd.prog 18 #[.slice P1 N1 C1, .int .u32 ctr, .slice P2 N2 C2, .slice r k e] W (BTo mm S good W)) ∧
    Hid (∀ W, Below w.heap.size w W → Calls Tryd.prog 19 #[.slice P1 N1 C1, .int .u32 ctr, .slice P2 N2 C2, .slice r k e] W (BTo mm S good W))
theorem pairAt (w : World) (g j : Nat) (p q r : Option Addr) (n c m d k e : Nat) (key nonce b : List Int) (ctr : Int) (h : Byt w p n c key) (h' : Byt w q m d nonce) (hb : Byt w r k e b) (hk : k ≤ 1000000) (hQ : QAt w) (hc0 : 0 ≤ ctr) (hc1 : ctr < 4294967296)
    (c0 : w.cell? ⟨g, j * 2, none⟩ = some (.slice p n c)) (c1 : w.cell? ⟨g, j * 2 + 1, none⟩ = some (.slice q m d)) : PairAt w g j ctr r k e := by
  obtain ⟨nn, R, ok, h1, h2⟩ := block_pair p q n c m d key nonce ctr w h h' hQ
  obtain ⟨mm, S, good, h3, h4⟩ := xor_pair p q r n c m d k e key nonce b ctr w h h' hb hk hQ hc0 hc1
  exact ⟨p, n, c, q, m, d, nn, R, ok, mm, S, good, c0, c1, h1, h2, h3, h4⟩

set_option maxHeartbeats 3200000 in
set_option maxRecDepth 100000 in
theorem chachaBlocks_walk (p0 : Option Addr) (n0 c0 : Nat) (xs0 : List Int) (p1 : Option Addr) (n1 c1 : Nat) (xs1 : List Int) (ctr : Int) (p3 : Option Addr) (n3 c3 : Nat) (xs3 : List Int) (p4 : Option Addr) (n4 c4 : Nat) (xs4 : List Int) (w : World)
    (h0 : Byt w p0 n0 c0 xs0) (r0 : c0 ≤ 140737488351232) (h1 : Byt w p1 n1 c1 xs1) (r1 : c1 ≤ 140737488351232) (g2 : 0 ≤ ctr ∧ ctr ≤ 4294967295) (h3 : Byt w p3 n3 c3 xs3) (r3 : c3 ≤ 140737488351232) (h4 : Byt w p4 n4 c4 xs4) (r4 : c4 ≤ 140737488351232) (hQ : QAt w) :
    Calls Tryd.prog 4 #[.slice p0 n0 c0, .slice p1 n1 c1, .int .u32 ctr, .slice p3 n3 c3, .slice p4 n4 c4] w fun e w' => e = .returned (.bool true) ∧ Below w.heap.size w w' := by
  have HA := hidden (awake10_any w)
  have H0 := hidden (fun W (hW : Below w.heap.size w W) => h0.below hW)
  have H1 := hidden (fun W (hW : Below w.heap.size w W) => h1.below hW)
  have H3 := hidden (fun W (hW : Below w.heap.size w W) => h3.below hW)
  have H4 := hidden (fun W (hW : Below w.heap.size w W) => h4.below hW)
  have HQ := hidden (fun W (hW : Below w.heap.size w W) => hQ.below hW hQ.lt)
  have hc3 := h3.cap
  clear h0 h1 h3 h4 hQ
  go_enter Tryd.func4, Tryd.ntmps4
  go_upto_if 27 with (first
    | (go_at_call 14; (with_reducible refine (HA.out).mono ?_); rintro e w1 ⟨rfl, hb⟩; have HB1 := hidden hb; clear hb)
    | fail)
  go_cut [3] from 25 to 29 (fun x wx => ∃ (N : Nat) (B : List Int), x = .slice p3 N c3 ∧ N ≤ 600 ∧ Byt wx p3 N c3 B ∧ Below w.heap.size w wx)
  case first =>
    have hx := H3.out w1 HB1.out
    by_cases hl : n3 ≤ 600
    · have hl' : ¬ (600 : Int) < (n3 : Int) := by omega
      have HX := hidden hx
      clear hx
      go_wp2
      go_meet
      case rel => exact ⟨n3, xs3, rfl, hl, HX.out, HB1.out⟩
    · have hl' : (600 : Int) < (n3 : Int) := by omega
      have HX := hidden (hx.front 600 (by omega))
      clear hx
      go_wp2
      go_meet
      case rel => exact ⟨600, xs3.take 600, rfl, by omega, HX.out, HB1.out⟩
  case rest =>
    obtain ⟨N, B, rfl, hN, hB, hb⟩ := hcut
    have HB := hidden hb
    have HBY := hidden (fun W (hW : Below wc.heap.size wc W) => hB.below hW)
    have HKEY := hidden (key_any p4 n4 c4 xs4 wc (H4.out wc hb))
    clear hb hB H3 H4
    go_upto_region 6 with (first
      | (go_at_call 15; (with_reducible refine (HKEY.out).mono ?_); rintro e w2 ⟨kp, kc, ky, np, nc, ny, rfl, hk, hn, hbel⟩; have HK := hidden hk; have HNO := hidden hn; have HB2 := hidden hbel; clear hk hn hbel)
      | fail)
    go_upto_region 7 with fail
    generalize hw3 : w2.alloc (.cells #[.slice p0 n0 c0, .slice p1 n1 c1, .slice kp 32 kc, .slice np 12 nc, .slice kp 32 kc, .slice p1 n1 c1, .slice p0 n0 c0, .slice np 12 nc] 55) = w3
    obtain ⟨g, hg⟩ : ∃ g, w2.heap.size = g := ⟨_, rfl⟩
    have hcell : ∀ j v, (#[.slice p0 n0 c0, .slice p1 n1 c1, .slice kp 32 kc, .slice np 12 nc, .slice kp 32 kc, .slice p1 n1 c1, .slice p0 n0 c0, .slice np 12 nc] : Array Value)[j]? = some v → w3.cell? ⟨g, j, none⟩ = some v := fun j v hv => by
      rw [← hw3, ← hg, cell_of_row _ _ _ _ _ _ (heap_alloc_new w2 _)]
      exact hv
    have hb3 : Below wc.heap.size wc w3 := by
      rw [← hw3]
      exact HB2.out.alloc HB2.out.size _
    have hb23 : Below w2.heap.size w2 w3 := by
      rw [← hw3]
      exact (Below.refl _ w2).alloc (Nat.le_refl _) _
    have hbw : Below w.heap.size w w3 := HB.out.trans (hb3.mono HB.out.size)
    have hgl : g < w3.heap.size := by rw [← hw3, ← hg]; simp
    have y0 := H0.out w3 hbw
    have y1 := H1.out w3 hbw
    have yb := HBY.out w3 hb3
    have yk := HK.out.below hb23
    have yn := HNO.out.below hb23
    have yq := HQ.out w3 hbw
    have HPA : Hid (∀ j, j < 4 → PairAt w3 g j ctr p3 N c3) := fun j hj => by
      have hjc : j = 0 ∨ j = 1 ∨ j = 2 ∨ j = 3 := by omega
      rcases hjc with rfl | rfl | rfl | rfl
      · exact pairAt w3 g 0 p0 p1 p3 n0 c0 n1 c1 N c3 xs0 xs1 B ctr y0 y1 yb (by omega) yq g2.1 (by omega) (hcell 0 _ rfl) (hcell 1 _ rfl)
      · exact pairAt w3 g 1 kp np p3 32 kc 12 nc N c3 ky ny B ctr yk yn yb (by omega) yq g2.1 (by omega) (hcell 2 _ rfl) (hcell 3 _ rfl)
      · exact pairAt w3 g 2 kp p1 p3 32 kc n1 c1 N c3 ky xs1 B ctr yk y1 yb (by omega) yq g2.1 (by omega) (hcell 4 _ rfl) (hcell 5 _ rfl)
      · exact pairAt w3 g 3 p0 np p3 n0 c0 12 nc N c3 xs0 ny B ctr y0 yn yb (by omega) yq g2.1 (by omega) (hcell 6 _ rfl) (hcell 7 _ rfl)
    have HBW := hidden hbw
    simp only [hg]
    clear hcell hb3 hb23 hbw y0 y1 yb yk yn yq hw3 hg HK HNO HB2 H0 H1 HBY HQ HB HKEY
    go_loopw [49] (fun i wr => ∃ j : Nat, j ≤ 4 ∧ i = .int .i64 j ∧ Below w3.heap.size w3 wr) (fun i _ => 4 - (intOf i).toNat)
    case atStart => exact ⟨0, by omega, rfl, Below.refl _ _⟩
    case round =>
      obtain ⟨j, hj, rfl, hb⟩ := hrel
      have HB := hidden hb
      by_cases hlt : j < 4
      · obtain ⟨P1, N1, C1, P2, N2, C2, nn, R, ok, mm, S, good, x0, x1, hF1, hF2, hF3, hF4⟩ := HPA.out j hlt
        have x0 := cell_below hb _ _ x0
        have x1 := cell_below hb _ _ x1
        have b0 : (0 : Int) ≤ (j : Int) := by omega
        have b1 : (j : Int) < 4 := by omega
        have o1 : (ok != ok) = false := by simp
        have o2 : (good != good) = false := by simp
        clear hb
        go_upto_region 9 with fail
        obtain ⟨G, hG⟩ : ∃ G, wr.heap.size = G := ⟨_, rfl⟩
        obtain ⟨w4, hw4⟩ : ∃ w4, wr.alloc (.cells #[.slice P1 N1 C1, .slice P2 N2 C2] 55) = w4 := ⟨_, rfl⟩
        have z0 : w4.cell? ⟨G, 0, none⟩ = some (.slice P1 N1 C1) := by rw [← hw4, ← hG, cell_of_row _ _ _ _ _ _ (heap_alloc_new wr _)]; rfl
        have z1 : w4.cell? ⟨G, 1, none⟩ = some (.slice P2 N2 C2) := by rw [← hw4, ← hG, cell_of_row _ _ _ _ _ _ (heap_alloc_new wr _)]; rfl
        have hM4 : Below w4.heap.size w4 w4 := Below.refl _ _
        have HZ := hidden (fun W (hW : Below w4.heap.size w4 W) => (⟨cell_below hW _ _ z0, cell_below hW _ _ z1⟩ : W.cell? ⟨G, 0, none⟩ = some (.slice P1 N1 C1) ∧ W.cell? ⟨G, 1, none⟩ = some (.slice P2 N2 C2)))
        have HM4 := hidden hM4
        have HN4 : Hid (Below w3.heap.size w3 w4) := by rw [← hw4]; exact HB.out.alloc HB.out.size _
        simp only [hG, hw4]
        clear hM4 hG hw4 x0 x1 HB
        go_upto_region 13 with (first
          | (go_at_call 16; go_loud (with_reducible refine (hF1.out _ HN4.out).mono ?_); rintro e w5 ⟨pa, ca, rfl, hya, hbla⟩; have HYa := hidden (fun W (hW : Below w5.heap.size w5 W) => hya.below hW); have HM5 := hidden (HM4.out.trans (hbla.mono HM4.out.size)); have HN5 := hidden (HN4.out.trans (hbla.mono HN4.out.size)); have HD5 := hidden hbla; have z0 := (HZ.out _ HM5.out).1; have z1 := (HZ.out _ HM5.out).2; clear hya hbla)
          | (go_at_call 17; go_loud (with_reducible refine (hF2.out _ HN5.out).mono ?_); rintro e w6 ⟨pb, cb, rfl, hyb, hblb⟩; have HYb := hidden (fun W (hW : Below w6.heap.size w6 W) => hyb.below hW); have HM6 := hidden (HM5.out.trans (hblb.mono HM5.out.size)); have HN6 := hidden (HN5.out.trans (hblb.mono HN5.out.size)); have HD6 := hidden hblb; have z0 := (HZ.out _ HM6.out).1; have z1 := (HZ.out _ HM6.out).2; clear hyb hblb)
          | (go_at_call 18; go_loud (with_reducible refine (hF3.out _ HN6.out).mono ?_); rintro e w7 ⟨pd, cd, rfl, hyd, hbld⟩; have HYd := hidden (fun W (hW : Below w7.heap.size w7 W) => hyd.below hW); have HM7 := hidden (HM6.out.trans (hbld.mono HM6.out.size)); have HN7 := hidden (HN6.out.trans (hbld.mono HN6.out.size)); have HD7 := hidden hbld; have z0 := (HZ.out _ HM7.out).1; have z1 := (HZ.out _ HM7.out).2; clear hyd hbld)
          | (go_at_call 19; go_loud (with_reducible refine (hF4.out _ HN7.out).mono ?_); rintro e w8 ⟨pe, ce, rfl, hye, hble⟩; have HYe := hidden (fun W (hW : Below w8.heap.size w8 W) => hye.below hW); have HM8 := hidden (HM7.out.trans (hble.mono HM7.out.size)); have HN8 := hidden (HN7.out.trans (hble.mono HN7.out.size)); have HD8 := hidden hble; have z0 := (HZ.out _ HM8.out).1; have z1 := (HZ.out _ HM8.out).2; clear hye hble)
          | fail)
        have b58 : Below w5.heap.size w5 w8 := HD6.out.trans ((HD7.out.trans (HD8.out.mono HD7.out.size)).mono HD6.out.size)
        have b68 : Below w6.heap.size w6 w8 := HD7.out.trans (HD8.out.mono HD7.out.size)
        have HE1 := hidden (requal_any pa pb nn ca nn cb R R w8 (HYa.out w8 b58) (HYb.out w8 b68))
        have HE2 := hidden (fun rr => requal_any pd pe mm cd mm ce S S (w8.drewN rr) (HYd.out _ (HD8.out.trans ((drew_below ⟨rr, rfl⟩ : Below w8.heap.size w8 (w8.drewN rr)).mono HD8.out.size))) (HYe.out _ (drew_below ⟨rr, rfl⟩)))
        simp only [decide_true] at HE1 HE2
        clear b58 b68 HZ z0 z1
        go_wp2_with (first
          | (go_at_call 20; (with_reducible refine (HE1.out).mono ?_); rintro e w9 ⟨rfl, r1, rfl⟩)
          | (go_at_call 20; (with_reducible refine (HE2.out _).mono ?_); rintro e w10 ⟨rfl, r2, rfl⟩)
          | fail)
        go_roundw
        case rel => exact ⟨j + 1, by omega, by go_num, HN8.out.trans (drew_below ⟨_, rfl⟩)⟩
        case measure => simp [intOf]; omega
      · have hge : ¬ (j : Int) < 4 := by omega
        have HBE := hidden (HBW.out.trans (HB.out.mono HBW.out.size))
        go_wp2
        go_ret
        exact ⟨rfl, HBE.out⟩
end Go.Proofs.YtnnpecfineanlaaDoor
