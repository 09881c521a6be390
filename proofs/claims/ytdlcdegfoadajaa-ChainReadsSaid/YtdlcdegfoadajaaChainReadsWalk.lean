/-
  The law ChainReads, walked: it returns true for every input, and only adds memory of its own.
-/
import Derived.Test.YtdlcdegfoadajaaChainSealedWalk
import Derived.Test.YtdlcdegfoadajaaChange
import Derived.Test.YtdlcdegfoadajaaMod
namespace Go.Proofs.Ytdlcdegfoadajaa
open Go.RowKit
set_option linter.unusedVariables false

/-- Element q of the row of inputs: a first type and some bytes. -/
def InAt (w : World) (g q : Nat) : Prop := ∃ (f : Int) (p : Option Addr) (n c : Nat) (xs : List Int), w.cell? ⟨g, q * 2, none⟩ = some (.int .i64 f) ∧ w.cell? ⟨g, q * 2 + 1, none⟩ = some (.slice p n c) ∧ Byt w p n c xs ∧ n ≤ 140737488351232
theorem ins5 (w : World) (f0 f1 f2 f3 f4 : Int) (p0 p2 p3 : Option Addr) (n0 n2 n3 c0 c2 c3 : Nat) (x0 x2 x3 : List Int) (T : TypeId) (h0 : Byt w p0 n0 c0 x0) (h2 : Byt w p2 n2 c2 x2) (h3 : Byt w p3 n3 c3 x3) (b0 : n0 ≤ 140737488351232) (b2 : n2 ≤ 140737488351232) (b3 : n3 ≤ 140737488351232) :
    ∀ q, q < 5 → InAt (w.alloc (.cells #[.int .i64 f0, .slice p0 n0 c0, .int .i64 f1, .slice p0 n0 c0, .int .i64 f2, .slice p2 n2 c2, .int .i64 f3, .slice p3 n3 c3, .int .i64 f4, .slice p2 n2 c2] T)) w.heap.size q := by
  intro q hq
  have : q = 0 ∨ q = 1 ∨ q = 2 ∨ q = 3 ∨ q = 4 := by omega
  rcases this with rfl | rfl | rfl | rfl | rfl
  · exact ⟨f0, p0, n0, c0, x0, by go_simp, by go_simp, h0.alloc _, b0⟩
  · exact ⟨f1, p0, n0, c0, x0, by go_simp, by go_simp, h0.alloc _, b0⟩
  · exact ⟨f2, p2, n2, c2, x2, by go_simp, by go_simp, h2.alloc _, b2⟩
  · exact ⟨f3, p3, n3, c3, x3, by go_simp, by go_simp, h3.alloc _, b3⟩
  · exact ⟨f4, p2, n2, c2, x2, by go_simp, by go_simp, h2.alloc _, b2⟩

set_option maxHeartbeats 3200000 in
set_option maxRecDepth 100000 in
theorem chainReads_walk (first : Int) (p : Option Addr) (n c : Nat) (xs : List Int) (q : Option Addr) (m d : Nat) (ys : List Int) (w : World) (g0 : -9223372036854775808 ≤ first ∧ first ≤ 9223372036854775807) (h : Byt w p n c xs) (b1 : c ≤ 140737488351232) (hq : Byt w q m d ys) (b2 : d ≤ 140737488351232) :
    Calls Try.prog 3 #[.int .i64 first, .slice p n c, .slice q m d] w fun e w' => e = .returned (.bool true) ∧ Below w.heap.size w w' := by
  have HX := hidden h
  have HQ := hidden hq
  have hnc := h.cap
  have HA := hidden (awake03_any w)
  have hm0 := Int.emod_nonneg first (show (256 : Int) ≠ 0 by decide)
  have hm1 := Int.emod_lt_of_pos first (show (0 : Int) < 256 by decide)
  clear h hq
  go_enter Try.func3, Try.ntmps3
  go_wp2_with (go_at_call 8; (with_reducible refine (HA.out).mono ?_))
  rintro e w1 ⟨rfl, hb⟩
  have HB1 := hidden hb
  clear hb HA
  go_wp2_with (go_at_call 9; (refine (new_any w q m d ys w1 HQ.out HB1.out 120 (by omega)).mono ?_))
  rintro e w2 ⟨rfl, hc, hb⟩
  have HC2 := hidden hc
  clear hc hb HB1 HQ
  generalize w1.heap.size = k at *
  go_wp2_with (go_at_call 10; (with_reducible refine (draw_any w w2 k HC2.out).mono ?_))
  rintro e w3 ⟨v, l, last, rfl, hgood, hds⟩
  obtain ⟨pv, cv, rfl, hrd⟩ := hds.rws.rd rfl
  have HC3 := hidden hds.cod
  have HBD := hidden (rbuild_val pv l.length cv l last w3 hrd _ _ _ hgood.built)
  have hs60 := hgood.short
  have hk3 := hds.cod.lt
  clear hgood hds hrd HC2
  generalize nextC 0 (l.map RawP.raw) = kk at *
  generalize encC last (l.map RawP.raw) = L at *
  go_wp2_with (go_at_call 11; (with_reducible refine (HBD.out).mono ?_))
  rintro e w4 ⟨p4, n4, c4, rfl, hy, ho, hb⟩
  have hn4 : n4 ≤ 60 := by rw [← hy.len]; exact hs60
  have HBO4 := hidden (show Bod w4 w3.heap.size p4 n4 c4 L from by
    obtain ⟨p', c', he, hb'⟩ := ho.bod hy.len hy.rng
    simp at he
    obtain ⟨rfl, rfl⟩ := he
    exact hb')
  have HC4 := hidden (HC3.out.below hb)
  clear hy ho hb HC3 HBD hs60
  go_wp2_with (go_at_call 12; (with_reducible refine (mod_any first 256 _ g0 (by omega)).mono ?_); rintro e w' ⟨rfl, rfl⟩)
  refine (change_any w w4 k HC4.out p4 n4 c4 L HBO4.out.byt (by omega)).mono ?_
  rintro e w5 ⟨pc, nc, cc, zs, rfl, hz, hnz, hc, hg⟩
  have HBO5 := hidden (HBO4.out.grown hg (OffB.low hk3))
  have HZ5 := hidden hz
  have HB5 := hidden hc.bel
  clear hz hc hg HC4 HBO4
  go_wp2_with (go_at_call 12; (with_reducible refine (mod_any first 256 _ g0 (by omega)).mono ?_); rintro e w' ⟨rfl, rfl⟩)
  have HI := hidden (ins5 w5 first (first % 256) kk kk (first % 256) p p4 pc n n4 nc c c4 cc xs L zs 32 (HX.out.below HB5.out) HBO5.out.byt HZ5.out (by omega) (by omega) (by omega))
  have HB6 := hidden (HB5.out.alloc HB5.out.size (.cells #[.int .i64 first, .slice p n c, .int .i64 (first % 256), .slice p n c, .int .i64 kk, .slice p4 n4 c4, .int .i64 kk, .slice pc nc cc, .int .i64 (first % 256), .slice p4 n4 c4] 32))
  generalize hwi : w5.alloc (.cells #[.int .i64 first, .slice p n c, .int .i64 (first % 256), .slice p n c, .int .i64 kk, .slice p4 n4 c4, .int .i64 kk, .slice pc nc cc, .int .i64 (first % 256), .slice p4 n4 c4] 32) = wi at *
  clear hwi HX HBO5 HZ5 HB5
  generalize w5.heap.size = gs at *
  go_loopw [58] (fun j wq => ∃ t : Nat, t ≤ 5 ∧ j = .int .i64 t ∧ Below wi.heap.size wi wq) (fun j _ => 5 - (intOf j).toNat)
  case atStart => exact ⟨0, by omega, rfl, Below.refl _ _⟩
  case round =>
    obtain ⟨t, ht, rfl, hbq⟩ := hrel
    have HBq := hidden hbq
    by_cases h5 : t < 5
    · obtain ⟨f, pt, nt, ct, vs, cell0, cell1, hb, hnt⟩ := HI.out t h5
      have d0 := cell_below hbq _ _ cell0
      have d1 := cell_below hbq _ _ cell1
      have HBT := hidden (hb.below hbq)
      obtain ⟨r, hr⟩ : ∃ r, parseTop f vs = r := ⟨_, rfl⟩
      have HP := hidden (fun w (h : Byt w pt nt ct vs) => parseC_any pt nt ct vs w h hnt f r hr)
      have HR := hidden (fun w (h : Byt w pt nt ct vs) => rparseC_any pt nt ct vs w h hnt f r hr)
      have HBX := hidden (HBq.out.alloc HBq.out.size (.cells #[.int .i64 f, .slice pt nt ct] 32))
      have HBT2 := hidden (HBT.out.alloc (.cells #[.int .i64 f, .slice pt nt ct] 32))
      clear hbq cell0 cell1 hb hr HBT
      go_wp2_with (go_at_call 14; (with_reducible refine (HP.out _ HBT2.out).mono ?_))
      rintro e wa ⟨va, la, rfl, hra, hma, hla, hba⟩
      have HM := hidden hma
      have hba' := hba
      have b0 := cell_below hba _ _ (show (wr.alloc (.cells #[.int .i64 f, .slice pt nt ct] 32)).cell? ⟨wr.heap.size, 0, none⟩ = some (.int .i64 f) by go_simp)
      have b1 := cell_below hba _ _ (show (wr.alloc (.cells #[.int .i64 f, .slice pt nt ct] 32)).cell? ⟨wr.heap.size, 1, none⟩ = some (.slice pt nt ct) by go_simp)
      obtain ⟨pa, ca, rfl, hrda⟩ := hra.rd rfl
      have HRA := hidden hrda
      have HBT3 := hidden (HBT2.out.below hba)
      have HBa := hidden (HBX.out.trans (hba.mono HBX.out.size))
      obtain ⟨re, hre⟩ : ∃ z, r.e = z := ⟨_, rfl⟩
      obtain ⟨rn, hrn⟩ : ∃ z, r.n = z := ⟨_, rfl⟩
      have HRQ := hidden (show ∀ e w', ParsedC wa r e w' → ∃ v l, e = .returned (.tuple #[v, .int .i64 rn, .int .i64 re]) ∧ Rws w' wa.heap.size v l ∧ l.map RawP.raw = r.l ∧ Below wa.heap.size wa w' from fun e w' ⟨v, l, he, h1, h2, _, h3⟩ => ⟨v, l, by rw [he, hre, hrn], h1, h2, h3⟩)
      rw [hre, hrn]
      have hee : (re != re) = false := by simp
      have hnn : (rn != rn) = false := by simp
      clear hra hma hla hba hba' hrda HBT2 HBX HP hre hrn d0 d1
      go_wp2_with (go_at_call 15; (with_reducible refine ((HR.out _ HBT3.out).mono HRQ.out).mono ?_))
      rintro e wb ⟨vb, lb, rfl, hrb, hmb, hbb⟩
      obtain ⟨pb', cb', rfl, hrdb⟩ := hrb.rd rfl
      have HS := hidden (same_yes pa pb' la.length ca lb.length cb' la lb wb (HRA.out.below hbb) hrdb (HM.out.trans hmb.symm))
      have HBb := hidden (HBa.out.trans (hbb.mono HBa.out.size))
      clear hrb hmb hbb hrdb HRA HBT3 HBa HR HRQ b0 b1 HM
      go_wp2_with (go_at_call 16; (with_reducible refine (HS.out).mono ?_))
      rintro e wd ⟨rfl, hbd⟩
      have HBd := hidden (HBb.out.trans (hbd.mono HBb.out.size))
      clear hbd HS HBb
      go_wp2
      go_roundw
      case rel => exact ⟨t + 1, by omega, by go_num, HBd.out⟩
      case measure => simp [intOf]; omega
    · obtain rfl : t = 5 := by omega
      go_wp2
      go_ret
      exact ⟨rfl, HB6.out.trans (HBq.out.mono HB6.out.size)⟩
end Go.Proofs.Ytdlcdegfoadajaa
