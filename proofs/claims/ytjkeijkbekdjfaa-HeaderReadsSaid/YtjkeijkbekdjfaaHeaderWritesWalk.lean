/-
  The law HeaderWrites, walked: it returns true for every input, and only adds memory of its own.
-/
import Derived.Test.YtjkeijkbekdjfaaHeaderReturnsWalk
import Derived.Test.YtjkeijkbekdjfaaRCompare
import Derived.Test.YtjkeijkbekdjfaaMod
import Derived.Deep.CutBlock
import Derived.Deep.RegionHeld3
namespace Go.Proofs.Ytjkeijkbekdjfaa
open Go.RowKit
set_option linter.unusedVariables false

/-- The numbers of a header fit into their types. -/
structure Fits (i r n x f m : Int) : Prop where
  fi : 0 ≤ i ∧ i ≤ 18446744073709551615
  fr : 0 ≤ r ∧ r ≤ 18446744073709551615
  fn : -9223372036854775808 ≤ n ∧ n ≤ 9223372036854775807
  fx : -9223372036854775808 ≤ x ∧ x ≤ 9223372036854775807
  ff : -9223372036854775808 ≤ f ∧ f ≤ 9223372036854775807
  fm : 0 ≤ m ∧ m ≤ 4294967295
/-- Some header lies there. -/
def Some6 (w : World) (g o : Nat) : Prop := ∃ i r n x f m, HdrIn w g o i r n x f m ∧ Fits i r n x f m
theorem Good.fits {i r n x f m : Int} (h : Good i r n x f m) : Fits i r n x f m := by
  obtain ⟨h1, h2, h3, h4, h5, h6, _, _⟩ := h
  exact ⟨by omega, h2, by omega, by omega, by omega, by omega⟩
theorem Some6.grown {w w' : World} {g o : Nat} {row : Option Nat} (h : Some6 w g o) (hg : w.grownBy w' row) (hne : some g ≠ row) : Some6 w' g o := by
  obtain ⟨i, r, n, x, f, m, h, k⟩ := h
  exact ⟨i, r, n, x, f, m, h.grown hg hne, k⟩
theorem Some6.below {w w' : World} {g o : Nat} (h : Some6 w g o) (hb : Below w.heap.size w w') : Some6 w' g o := h.grown (row := none) (grown_of_below hb none) (by simp)

theorem rbuild_val (i r n x f m len : Int) (L : List Int) (E : Int) (hl : buildR i r n x f m len = (L, E)) (w : World) (hi : 0 ≤ i ∧ i ≤ 18446744073709551615) (hr : 0 ≤ r ∧ r ≤ 18446744073709551615) (hm : 0 ≤ m ∧ m ≤ 4294967295) (hlen : -9223372036854775808 ≤ len ∧ len ≤ 9223372036854775807) :
    Calls Try.prog 11 #[.agg #[.int .u64 i, .int .u64 r, .int .i64 n, .int .i64 x, .int .i64 f, .int .u32 m], .int .i64 len] w (Built w L E) := by
  have := rbuild_any i r n x f m len w hi hr hm hlen
  rw [hl] at this
  exact this
theorem requal_same (p q : Option Addr) (n c m d : Nat) (xs : List Int) (w : World) (h : Byt w p n c xs) (k : Byt w q m d xs) :
    Calls Try.prog 18 #[.slice p n c, .slice q m d] w fun e w' => e = .returned (.bool true) ∧ ∃ r, w' = w.drewN r := by
  have := requal_any p q n c m d xs xs w h k
  simpa using this
theorem arr_new (w : World) (ia ra na xa fa ma ib rb nb xb fb mb ic rc nc xc fc mc : Int) (ka : Fits ia ra na xa fa ma) (kb : Fits ib rb nb xb fb mb) (kc : Fits ic rc nc xc fc mc) :
    ∀ q, q < 3 → Some6 (w.alloc (.cells #[.int .u64 ia, .int .u64 ra, .int .i64 na, .int .i64 xa, .int .i64 fa, .int .u32 ma, .int .u64 ib, .int .u64 rb, .int .i64 nb, .int .i64 xb, .int .i64 fb, .int .u32 mb, .int .u64 ic, .int .u64 rc, .int .i64 nc, .int .i64 xc, .int .i64 fc, .int .u32 mc] 29)) w.heap.size (q * 6) := by
  intro q hq
  have : q = 0 ∨ q = 1 ∨ q = 2 := by omega
  rcases this with rfl | rfl | rfl
  · exact ⟨ia, ra, na, xa, fa, ma, ⟨by go_simp, by go_simp, by go_simp, by go_simp, by go_simp, by go_simp, fun j => by go_simp⟩, ka⟩
  · exact ⟨ib, rb, nb, xb, fb, mb, ⟨by go_simp, by go_simp, by go_simp, by go_simp, by go_simp, by go_simp, fun j => by go_simp⟩, kb⟩
  · exact ⟨ic, rc, nc, xc, fc, mc, ⟨by go_simp, by go_simp, by go_simp, by go_simp, by go_simp, by go_simp, fun j => by go_simp⟩, kc⟩

set_option maxHeartbeats 1600000 in
set_option maxRecDepth 100000 in
theorem headerWrites_walk (i r n x f m : Int) (len : Int) (p : Option Addr) (l c : Nat) (xs : List Int) (w : World) (hf : Fits i r n x f m) (g1 : -9223372036854775808 ≤ len ∧ len ≤ 9223372036854775807) (h : Byt w p l c xs) (b0 : c ≤ 140737488351232) :
    Calls Try.prog 4 #[.agg #[.int .u64 i, .int .u64 r, .int .i64 n, .int .i64 x, .int .i64 f, .int .u32 m], .int .i64 len, .slice p l c] w fun e w' => e = .returned (.bool true) ∧ Below w.heap.size w w' := by
  have HX := hidden h
  have HN0 := hidden (show Some6 (w.alloc (.cells #[.int .u64 i, .int .u64 r, .int .i64 n, .int .i64 x, .int .i64 f, .int .u32 m] 29)) w.heap.size 0 from ⟨_, _, _, _, _, _, HdrIn.new w i r n x f m 29, hf⟩)
  have HB0 := hidden ((Below.refl w.heap.size w).alloc (Nat.le_refl _) (.cells #[.int .u64 i, .int .u64 r, .int .i64 n, .int .i64 x, .int .i64 f, .int .u32 m] 29))
  have HA := hidden (fun w => awake02_any w)
  clear h
  go_enter Try.func4, Try.ntmps4
  go_wp2_with (go_at_call 7; (with_reducible refine (HA.out _).mono ?_))
  rintro e w1 ⟨rfl, hb⟩
  have HB1 := hidden (HB0.out.trans (hb.mono HB0.out.size))
  have HN1 := hidden (HN0.out.below hb)
  clear hb HA HB0 HN0
  go_wp2_with (go_at_call 8; (refine (new_any w p l c xs w1 HX.out HB1.out 60 (by omega)).mono ?_))
  rintro e w2 ⟨rfl, hc, hb⟩
  have HC2 := hidden hc
  have HN2 := hidden (HN1.out.below hb)
  have hk0 : w.heap.size < w1.heap.size := by
    obtain ⟨_, _, _, _, _, _, h, _⟩ := HN1.out
    exact h.lt
  clear hc hb HB1 HX HN1
  generalize w1.heap.size = k at *
  go_wp2_with (go_at_call 9; (with_reducible refine (header_val w w2 _ HC2.out).mono ?_))
  rintro e w3 ⟨i1, r1, n1, x1, f1, m1, rfl, hgood, hc, hg⟩
  have HH3 := hidden (show Some6 (w3.alloc (.cells #[.int .u64 i1, .int .u64 r1, .int .i64 n1, .int .i64 x1, .int .i64 f1, .int .u32 m1] 29)) w3.heap.size 0 from ⟨_, _, _, _, _, _, HdrIn.new w3 i1 r1 n1 x1 f1 m1 29, hgood.fits⟩)
  have HC3 := hidden (hc.alloc (.cells #[.int .u64 i1, .int .u64 r1, .int .i64 n1, .int .i64 x1, .int .i64 f1, .int .u32 m1] 29))
  have HN3 := hidden ((HN2.out.grown hg (by simp; omega)).below ((Below.refl _ w3).alloc (Nat.le_refl _) (.cells #[.int .u64 i1, .int .u64 r1, .int .i64 n1, .int .i64 x1, .int .i64 f1, .int .u32 m1] 29)))
  have hk3 := hc.lt
  clear hgood hc hg HC2 HN2
  generalize hg3 : w3.heap.size = g3 at *
  go_wp2_with (go_at_call 9; (with_reducible refine (header_val w _ _ HC3.out).mono ?_))
  rintro e w4 ⟨i2, r2, n2, x2, f2, m2, rfl, hgood, hc, hg⟩
  have HK4 := hidden (show HdrIn (w4.alloc (.cells #[.int .u64 i2, .int .u64 r2, .int .i64 n2, .int .i64 x2, .int .i64 f2, .int .u32 m2] 29)) w4.heap.size 0 i2 r2 n2 x2 f2 m2 from HdrIn.new w4 i2 r2 n2 x2 f2 m2 29)
  have HF4 := hidden hgood.fits
  have HC4 := hidden (hc.alloc (.cells #[.int .u64 i2, .int .u64 r2, .int .i64 n2, .int .i64 x2, .int .i64 f2, .int .u32 m2] 29))
  have HN4 := hidden ((HN3.out.grown hg (by simp; omega)).below ((Below.refl _ w4).alloc (Nat.le_refl _) (.cells #[.int .u64 i2, .int .u64 r2, .int .i64 n2, .int .i64 x2, .int .i64 f2, .int .u32 m2] 29)))
  have HH4 := hidden ((HH3.out.grown hg (by simp; omega)).below ((Below.refl _ w4).alloc (Nat.le_refl _) (.cells #[.int .u64 i2, .int .u64 r2, .int .i64 n2, .int .i64 x2, .int .i64 f2, .int .u32 m2] 29)))
  have hs4 := hg.size
  simp [hg3] at hs4
  clear hgood hc hg HC3 HN3 HH3 hg3
  generalize hg4 : w4.heap.size = g4 at *
  go_wp2_with (go_at_call 10; (refine (next_any w _ k HC4.out _ ?_).mono ?_); omega)
  rintro e w5 ⟨z, rfl, z0, z1, hc, hg⟩
  have HK5 := hidden (HK4.out.grown hg (by simp; omega))
  have HN5 := hidden (HN4.out.grown hg (by simp; omega))
  have HH5 := hidden (HH4.out.grown hg (by simp; omega))
  have HC5 := hidden hc
  clear hc hg HK4 HN4 HH4 HC4 hg4
  go_upto_block 0 with fail
  go_cut [] from 28 to 52 (fun wx => Some6 wx w.heap.size 0 ∧ Some6 wx g3 0 ∧ Some6 wx g4 0 ∧ Below w.heap.size w wx)
  case first =>
    have hbw := HC5.out.bel.size
    have hbase := HC5.out.base
    have gf := HF4.out
    have gi := gf.fi
    have gr := gf.fr
    have gm := gf.fm
    have gn := gf.fn
    have gx := gf.fx
    have gff := gf.ff
    obtain ⟨k0, k1, k2, k3, k4, k5, kf⟩ := HK5.out
    have HKB := hidden (HC5.out.bel)
    have hz : z = 0 ∨ z = 1 ∨ z = 2 ∨ z = 3 ∨ z = 4 ∨ z = 5 := by omega
    clear gf
    rcases hz with rfl | rfl | rfl | rfl | rfl | rfl
    case inr.inr.inr.inl =>
      go_wp2
      go_meet
      case rel =>
        exact ⟨HN5.out.grown (grown_set _ g4 1 _) (by simp; omega), HH5.out.grown (grown_set _ g4 1 _) (by simp; omega), ⟨_, _, _, _, _, _, HK5.out.set1 0, ⟨by omega, by omega, by omega, by omega, by omega, by omega⟩⟩, HKB.out.setCell (p := ⟨g4, 1, none⟩) (by simp; omega) _⟩
    case inr.inr.inr.inr.inl =>
      go_wp2
      go_meet
      case rel =>
        exact ⟨HN5.out.grown (grown_set _ g4 0 _) (by simp; omega), HH5.out.grown (grown_set _ g4 0 _) (by simp; omega), ⟨_, _, _, _, _, _, HK5.out.set0 0, ⟨by omega, by omega, by omega, by omega, by omega, by omega⟩⟩, HKB.out.setCell (p := ⟨g4, 0, none⟩) (by simp; omega) _⟩
    all_goals
      go_wp2_with (go_at_call 15; (with_reducible refine (int_any w _ k HC5.out).mono ?_))
      rintro e w6 ⟨y, rfl, y0, y1, hc, hg⟩
      have HN6 := hidden (HN5.out.grown hg (by simp; omega))
      have HH6 := hidden (HH5.out.grown hg (by simp; omega))
      have hk6 := HK5.out.grown hg (by simp; omega)
      have HK6 := hidden hk6
      have HB6 := hidden hc.bel
      clear k0 k1 k2 k3 k4 k5 kf hc hg HK5 HN5 HH5 HC5 HKB
      obtain ⟨k0, k1, k2, k3, k4, k5, kf⟩ := hk6
      go_wp2
      go_meet
      case rel =>
        first
          | exact ⟨HN6.out.grown (grown_set _ g4 3 _) (by simp; omega), HH6.out.grown (grown_set _ g4 3 _) (by simp; omega), ⟨_, _, _, _, _, _, HK6.out.set3 y, ⟨by omega, by omega, by omega, by omega, by omega, by omega⟩⟩, HB6.out.setCell (p := ⟨g4, 3, none⟩) (by simp; omega) _⟩
          | exact ⟨HN6.out.grown (grown_set _ g4 2 _) (by simp; omega), HH6.out.grown (grown_set _ g4 2 _) (by simp; omega), ⟨_, _, _, _, _, _, HK6.out.set2 y, ⟨by omega, by omega, by omega, by omega, by omega, by omega⟩⟩, HB6.out.setCell (p := ⟨g4, 2, none⟩) (by simp; omega) _⟩
          | exact ⟨HN6.out.grown (grown_set _ g4 4 _) (by simp; omega), HH6.out.grown (grown_set _ g4 4 _) (by simp; omega), ⟨_, _, _, _, _, _, HK6.out.set4 y, ⟨by omega, by omega, by omega, by omega, by omega, by omega⟩⟩, HB6.out.setCell (p := ⟨g4, 4, none⟩) (by simp; omega) _⟩
          | exact ⟨HN6.out.grown (grown_set _ g4 5 _) (by simp; omega), HH6.out.grown (grown_set _ g4 5 _) (by simp; omega), ⟨_, _, _, _, _, _, HK6.out.set5 (IntKind.u32.wrap y), ⟨by omega, by omega, by omega, by omega, by omega, by rw [IntKind.wrap_u32]; omega⟩⟩, HB6.out.setCell (p := ⟨g4, 5, none⟩) (by simp; omega) _⟩
  case rest =>
    obtain ⟨⟨ia, ra, na, xa, fa, ma, ha, ka⟩, ⟨ib, rb, nb, xb, fb, mb, hb, kb⟩, ⟨ic, rc, nc, xc, fc, mc, hc, kc⟩, hB⟩ := hcut
    have HKA := hidden ka
    have HKB := hidden kb
    have HKC := hidden kc
    have HBC := hidden hB
    obtain ⟨ca0, ca1, ca2, ca3, ca4, ca5, caf⟩ := ha
    obtain ⟨cb0, cb1, cb2, cb3, cb4, cb5, cbf⟩ := hb
    obtain ⟨cc0, cc1, cc2, cc3, cc4, cc5, ccf⟩ := hc
    clear HK5 HN5 HH5 HC5 HF4 hB ka kb kc
    go_wp2
    have HAR := hidden (arr_new wc ia ra na xa fa ma ib rb nb xb fb mb ic rc nc xc fc mc HKA.out HKB.out HKC.out)
    have HB6 := hidden (HBC.out.alloc HBC.out.size (.cells #[.int .u64 ia, .int .u64 ra, .int .i64 na, .int .i64 xa, .int .i64 fa, .int .u32 ma, .int .u64 ib, .int .u64 rb, .int .i64 nb, .int .i64 xb, .int .i64 fb, .int .u32 mb, .int .u64 ic, .int .u64 rc, .int .i64 nc, .int .i64 xc, .int .i64 fc, .int .u32 mc] 29))
    have hga := HBC.out.size
    clear HKA HKB HKC HBC ca0 ca1 ca2 ca3 ca4 ca5 caf cb0 cb1 cb2 cb3 cb4 cb5 cbf cc0 cc1 cc2 cc3 cc4 cc5 ccf
    generalize hga' : wc.heap.size = ga at *
    go_loopw [58] (fun j wr => ∃ t : Nat, t ≤ 3 ∧ j = .int .i64 t ∧ (∀ q, q < 3 → Some6 wr ga (q * 6)) ∧ Below w.heap.size w wr) (fun j _ => 3 - (intOf j).toNat)
    case atStart => exact ⟨0, by omega, rfl, HAR.out, HB6.out⟩
    case round =>
      obtain ⟨t, ht, rfl, har, hbr⟩ := hrel
      have HAr := hidden har
      have HBr := hidden hbr
      clear har hbr HAR HB6
      by_cases h3 : t < 3
      · obtain ⟨i3, r3, n3, x3, f3, m3, hh, hfit⟩ := HAr.out t h3
        have HFt := hidden hfit
        obtain ⟨c0, c1, c2, c3, c4, c5, cf⟩ := hh
        clear hfit
        have HX := hidden ((HdrIn.new wr i3 r3 n3 x3 f3 m3 29).alloc (.cells #[.int .i64 len, .int .i64 (28 + len % 8166)] 3))
        have HB7 := hidden ((HBr.out.alloc HBr.out.size (.cells #[.int .u64 i3, .int .u64 r3, .int .i64 n3, .int .i64 x3, .int .i64 f3, .int .u32 m3] 29)).alloc (by have := HBr.out.size; simp; omega) (.cells #[.int .i64 len, .int .i64 (28 + len % 8166)] 3))
        have HA7 := hidden (fun q hq => ((HAr.out q hq).below ((Below.refl wr.heap.size wr).alloc (Nat.le_refl _) (.cells #[.int .u64 i3, .int .u64 r3, .int .i64 n3, .int .i64 x3, .int .i64 f3, .int .u32 m3] 29))).below ((Below.refl _ _).alloc (Nat.le_refl _) (.cells #[.int .i64 len, .int .i64 (28 + len % 8166)] 3)))
        have hm0 := Int.emod_nonneg len (show (8166 : Int) ≠ 0 by decide)
        have hm1 := Int.emod_lt_of_pos len (show (0 : Int) < 8166 by decide)
        go_wp2_with (go_at_call 16; (with_reducible refine (mod_any len 8166 _ g1 (by omega)).mono ?_); rintro e w' ⟨rfl, rfl⟩)
        have hgx : w.heap.size ≤ wr.heap.size := HBr.out.size
        have HI7 := hidden (show ∀ q, q < 2 → ∃ y : Int, ((wr.alloc (.cells #[.int .u64 i3, .int .u64 r3, .int .i64 n3, .int .i64 x3, .int .i64 f3, .int .u32 m3] 29)).alloc (.cells #[.int .i64 len, .int .i64 (28 + len % 8166)] 3)).cell? ⟨wr.heap.size + 1, q, none⟩ = some (.int .i64 y) ∧ -9223372036854775808 ≤ y ∧ y ≤ 9223372036854775807 by
          intro q hq
          have : q = 0 ∨ q = 1 := by omega
          rcases this with rfl | rfl
          · exact ⟨len, by go_simp, g1.1, g1.2⟩
          · exact ⟨28 + len % 8166, by go_simp, by omega, by omega⟩)
        generalize hwi : (wr.alloc (.cells #[.int .u64 i3, .int .u64 r3, .int .i64 n3, .int .i64 x3, .int .i64 f3, .int .u32 m3] 29)).alloc (.cells #[.int .i64 len, .int .i64 (28 + len % 8166)] 3) = wi at *
        clear hwi HAr HBr c0 c1 c2 c3 c4 c5 cf
        generalize wr.heap.size = gx at *
        go_loopw [68] (fun j wq => ∃ s : Nat, s ≤ 2 ∧ j = .int .i64 s ∧ Below wi.heap.size wi wq) (fun j _ => 2 - (intOf j).toNat)
        case atStart => exact ⟨0, by omega, rfl, Below.refl _ _⟩
        case round =>
          obtain ⟨s, hs, rfl, hbq⟩ := hrel
          have HBq := hidden hbq
          have HXq := hidden (HX.out.below hbq)
          by_cases h2 : s < 2
          · obtain ⟨y, cy, y0, y1⟩ := HI7.out s h2
            have dy := cell_below hbq _ _ cy
            obtain ⟨L, E, hLE⟩ : ∃ L E, buildR i3 r3 n3 x3 f3 m3 y = (L, E) := ⟨_, _, rfl⟩
            have HBA := hidden (fun w => build_val i3 r3 n3 x3 f3 m3 y L E hLE w HFt.out.fi HFt.out.fr HFt.out.fm ⟨y0, y1⟩)
            have HBB := hidden (fun w => rbuild_val i3 r3 n3 x3 f3 m3 y L E hLE w HFt.out.fi HFt.out.fr HFt.out.fm ⟨y0, y1⟩)
            obtain ⟨c0, c1, c2, c3, c4, c5, cf⟩ := HXq.out
            clear hbq hLE cy
            go_wp2_with (go_at_call 17; (with_reducible refine (HBA.out _).mono ?_))
            rintro e wa ⟨pa, na, ca, rfl, hya, _, hba⟩
            have HYa := hidden hya
            have HXa := hidden (HXq.out.below hba)
            have HBa := hidden (HBq.out.trans (hba.mono HBq.out.size))
            clear hya hba HXq HBq c0 c1 c2 c3 c4 c5 cf dy
            obtain ⟨c0, c1, c2, c3, c4, c5, cf⟩ := HXa.out
            go_wp2_with (go_at_call 11; (with_reducible refine (HBB.out _).mono ?_))
            rintro e wb ⟨pb, nb', cb, rfl, hyb, _, hbb⟩
            have HEQ := hidden (requal_same pa pb na ca nb' cb L wb (HYa.out.below hbb) hyb)
            have HBb := hidden (HBa.out.trans (hbb.mono HBa.out.size))
            clear hyb hbb HYa HXa HBa c0 c1 c2 c3 c4 c5 cf HBA HBB
            go_wp2_with (go_at_call 18; (with_reducible refine (HEQ.out).mono ?_); rintro e wc' ⟨rfl, rr, rfl⟩)
            go_roundw
            case rel => exact ⟨s + 1, by omega, by go_num, HBb.out.trans (drew_below ⟨_, rfl⟩)⟩
            case measure => simp [intOf]; omega
          · obtain rfl : s = 2 := by omega
            go_wp2
            obtain ⟨zc, hzc⟩ : ∃ z, checkR i3 r3 n3 x3 f3 m3 = z := ⟨_, rfl⟩
            have CK := hidden (fun cur (hb : Below wr.heap.size wr cur) => (check_at i3 r3 n3 x3 f3 m3 zc cur hzc).mono (R' := fun e w' => e = .returned (.int .i64 zc) ∧ Below wr.heap.size wr w') (fun e w' ⟨a, b⟩ => ⟨a, hb.trans (b.mono hb.size)⟩))
            have RK := hidden (fun cur (hb : Below wr.heap.size wr cur) => (rcheck_at i3 r3 n3 x3 f3 m3 zc cur hzc).mono (R' := fun e w' => e = .returned (.int .i64 zc) ∧ Below wr.heap.size wr w') (fun e w' ⟨a, b⟩ => ⟨a, hb.trans (b.mono hb.size)⟩))
            obtain ⟨bq, hbq0⟩ : ∃ b, (bits BinOp.and IntKind.i64 f3 32 == 0) = b := ⟨_, rfl⟩
            have CQ := hidden (fun cur (hb : Below wr.heap.size wr cur) => (request_any i3 r3 n3 x3 f3 m3 cur).mono (R' := fun e w' => e = .returned (.bool bq) ∧ Below wr.heap.size wr w') (fun e w' ⟨a, b⟩ => ⟨by rw [a, hbq0], hb.trans (b.mono hb.size)⟩))
            have RQ := hidden (fun cur (hb : Below wr.heap.size wr cur) => (rrequest_any i3 r3 n3 x3 f3 m3 cur).mono (R' := fun e w' => e = .returned (.bool bq) ∧ Below wr.heap.size wr w') (fun e w' ⟨a, b⟩ => ⟨by rw [a, hbq0], hb.trans (b.mono hb.size)⟩))
            have HS := hidden (fun w' (hb : Below wr.heap.size wr w') => (show w'.cell? ⟨gx, 0, none⟩ = some (.int .u64 i3) ∧ w'.cell? ⟨gx, 1, none⟩ = some (.int .u64 r3) ∧ w'.cell? ⟨gx, 2, none⟩ = some (.int .i64 n3) ∧ w'.cell? ⟨gx, 3, none⟩ = some (.int .i64 x3) ∧ w'.cell? ⟨gx, 4, none⟩ = some (.int .i64 f3) ∧ w'.cell? ⟨gx, 5, none⟩ = some (.int .u32 m3) from
              ⟨(HXq.out.below hb).c0, (HXq.out.below hb).c1, (HXq.out.below hb).c2, (HXq.out.below hb).c3, (HXq.out.below hb).c4, (HXq.out.below hb).c5⟩))
            have hb0 : Below wr.heap.size wr wr.drew := (Below.refl _ _).drew
            have hzz : (zc != zc) = false := by simp
            have hqq : (bq != bq) = false := by simp
            clear hzc hbq0
            go_region_held3 (fun w' => w'.cell? ⟨gx, 0, none⟩ = some (.int .u64 i3) ∧ w'.cell? ⟨gx, 1, none⟩ = some (.int .u64 r3) ∧ w'.cell? ⟨gx, 2, none⟩ = some (.int .i64 n3) ∧ w'.cell? ⟨gx, 3, none⟩ = some (.int .i64 x3) ∧ w'.cell? ⟨gx, 4, none⟩ = some (.int .i64 f3) ∧ w'.cell? ⟨gx, 5, none⟩ = some (.int .u32 m3))
              (first | exact HS.out _ hbX | exact HS.out _ hb0 | go_keep)
              ((first
                | (go_at_call 19; (with_reducible refine (CK.out _ (by first | exact hbX | exact hb0)).mono ?_); rintro e wX ⟨rfl, hbX⟩)
                | (go_at_call 20; (with_reducible refine (RK.out _ (by first | exact hbX | exact hb0)).mono ?_); rintro e wX ⟨rfl, hbX⟩)
                | (go_at_call 21; (with_reducible refine (CQ.out _ (by first | exact hbX | exact hb0)).mono ?_); rintro e wX ⟨rfl, hbX⟩)
                | (go_at_call 22; (with_reducible refine (RQ.out _ (by first | exact hbX | exact hb0)).mono ?_); rintro e wX ⟨rfl, hbX⟩)))
            all_goals
              have HAX := hidden (fun q hq => ((HA7.out q hq).below HBq.out).below hbX)
              have HBX := hidden (HB7.out.trans ((HBq.out.trans (hbX.mono HBq.out.size)).mono HB7.out.size))
              clear hbX CK RK CQ RQ HS hb0 HX HXq HBq HA7 HB7 HI7
              go_wp2
              go_roundw
              case rel => exact ⟨t + 1, by omega, by go_num, HAX.out, HBX.out⟩
              case measure => simp [intOf]; omega
      · obtain rfl : t = 3 := by omega
        go_wp2
        go_ret
        exact ⟨rfl, HBr.out⟩
end Go.Proofs.Ytjkeijkbekdjfaa
