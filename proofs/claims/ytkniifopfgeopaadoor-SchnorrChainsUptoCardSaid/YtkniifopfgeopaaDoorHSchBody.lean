/-
  Body of a certificate that is valid: schnorr's.
-/
import Derived.Test.YtkniifopfgeopaaDoorHZ7
namespace Go.Proofs.YtkniifopfgeopaaDoor
open Go.RowKit
set_option linter.unusedVariables false

theorem strOf_letters (s : ByteArray) (j : Nat) (hj : j < s.size) : ((s.data.toList.getD j 0).toNat : Int) = (letters s).getD j 0 := by
  unfold letters
  have h1 : j < s.data.toList.length := by rw [Array.length_toList]; exact hj
  rw [List.getD_eq_getElem?_getD, List.getD_eq_getElem?_getD, List.getElem?_map, List.getElem?_eq_getElem h1]
  rfl
/-- The bytes of a string that was converted. -/
theorem conv_str (W : World) (s : ByteArray) (hs : s.size ≤ maxLen) : Byt (Lib.bytesWorld W 5 s) (some ⟨W.heap.size, 0, none⟩) s.size (grownCap W s.size 0 5) (letters s) :=
  ⟨letters_len s, grownCap_ge _ _ _ _, grownCap_le_maxLen _ _ _ _ hs, letters_rng s, fun _ => ⟨W.heap.size, 0, rfl, fun j hj => by
    rw [letters_len] at hj
    rw [Nat.zero_add, Lib.bytesWorld_cell W _ s j hj, strOf_letters s j hj]⟩⟩
theorem conv_below (W : World) (s : ByteArray) : Below W.heap.size W (Lib.bytesWorld W 5 s) :=
  ⟨rfl, rfl, rfl, by rw [Lib.bytesWorld_size]; omega, fun i hi => Lib.bytesWorld_at_old W _ s i hi⟩
/-- The cells of a certificate. -/
structure CtAt (W : World) (g o : Nat) (x : Ct) : Prop where
  c0 : W.cell? ⟨g, o, none⟩ = some (.string x.s)
  c1 : W.cell? ⟨g, o + 1, none⟩ = some (.int .u64 (x.k : Int))
  c2 : W.cell? ⟨g, o + 2, none⟩ = some (.int .i64 x.f)
  c3 : W.cell? ⟨g, o + 3, none⟩ = some (.int .i64 x.t)
  c4 : W.cell? ⟨g, o + 4, none⟩ = some (.bool x.a)
  c5 : W.cell? ⟨g, o + 5, none⟩ = some (.slice x.p x.n x.c)
theorem CtAt.keep {W W' : World} {g o : Nat} {x : Ct} (h : CtAt W g o x) (hk : ∀ a v, W.cell? a = some v → W'.cell? a = some v) : CtAt W' g o x :=
  ⟨hk _ _ h.c0, hk _ _ h.c1, hk _ _ h.c2, hk _ _ h.c3, hk _ _ h.c4, hk _ _ h.c5⟩
theorem CtAt.below {W W' : World} {g o : Nat} {x : Ct} (h : CtAt W g o x) (hb : Below W.heap.size W W') : CtAt W' g o x := h.keep (cell_below hb)
theorem CtAt.new (w : World) (x : Ct) (T : TypeId) : CtAt (w.alloc (.cells #[.string x.s, .int .u64 (x.k : Int), .int .i64 x.f, .int .i64 x.t, .bool x.a, .slice x.p x.n x.c] T)) w.heap.size 0 x := by
  constructor <;> go_simp
/-- Bytes and no error. -/
def BdTo (L : List Int) (w : World) (e : Ending) (w' : World) : Prop := ∃ p n c, e = .returned (.tuple #[.slice p n c, .int .i64 0]) ∧ Byt w' p n c L ∧ Below w.heap.size w w'

set_option maxHeartbeats 3200000 in
set_option maxRecDepth 100000 in
theorem bodyS_ok (x : Ct) (h : CtOk x) (w : World) : Calls Tryd.prog 22 #[.agg #[.string x.s, .int .u64 (x.k : Int), .int .i64 x.f, .int .i64 x.t, .bool x.a, .slice x.p x.n x.c]] w (BdTo (bdL x) w) := by
  have HAT := hidden (CtAt.new w x 37)
  have HB0 := hidden ((Below.refl w.heap.size w).alloc (Nat.le_refl _) (.cells #[.string x.s, .int .u64 (x.k : Int), .int .i64 x.f, .int .i64 x.t, .bool x.a, .slice x.p x.n x.c] 37))
  have HNM := hidden h.nm
  have HE := hidden (fun W => gel_any x.k h.kl W)
  rw [h.ke] at HE
  have HBD : Is (bdL x) ((((([(x.s.size : Int)] ++ letters x.s) ++ gbytes x.k) ++ be 4 x.f) ++ be 4 x.t) ++ [if x.a then 1 else 0]) := ⟨rfl⟩
  have HBR := hidden (bdL_rng x h.nm)
  have hf0 := h.f0
  have hft := h.ft
  have ht1 := h.t1
  have hkl := h.kl
  obtain ⟨s, k, f, t, a, p, n, c, g⟩ := x
  simp only at *
  have HP8 := hidden (fun (q : Option Addr) (N d : Nat) W (L : List Int) (hW : Byt W q N d L) (hN : N ≤ 1000) => put_yes q N d L W hW (by omega) (k : Int) (by omega) 8 (by omega) (by omega))
  rw [show ((8 : Nat) : Int) = 8 from rfl, show be 8 (k : Int) = gbytes k from rfl] at HP8
  have HPF := hidden (fun (q : Option Addr) (N d : Nat) W (L : List Int) (hW : Byt W q N d L) (hN : N ≤ 1000) => put_yes q N d L W hW (by omega) f (by omega) 4 (by omega) (by omega))
  have HPT := hidden (fun (q : Option Addr) (N d : Nat) W (L : List Int) (hW : Byt W q N d L) (hN : N ≤ 1000) => put_yes q N d L W hW (by omega) t (by omega) 4 (by omega) (by omega))
  have HP1 := hidden (fun (b : Int) (hb : 0 ≤ b ∧ b ≤ 1) (q : Option Addr) (N d : Nat) W (L : List Int) (hW : Byt W q N d L) (hN : N ≤ 1000) => put_yes q N d L W hW (by omega) b (by omega) 1 (by omega) (by omega))
  rw [show ((4 : Nat) : Int) = 4 from rfl] at HPF HPT
  rw [show ((1 : Nat) : Int) = 1 from rfl] at HP1
  have h2 := HNM.out.le
  have h1 := HNM.out.pos
  have HLL := Is.mk (letters_len s)
  have HLR := hidden (letters_rng s)
  have HGL := Is.mk (gbytes_len k)
  have HGR := hidden (gbytes_rng k)
  have kc := fun (W : World) => Lib.run_convert_string_bytes (P := Tryd.prog) W 9 22 5 s Tryd.underlying9 Tryd.underlying22 Tryd.underlying5
  have e1 : ¬ f < 0 := by omega
  have e2 : ¬ t < f := by omega
  have e3 : ¬ (2147483647 : Int) < t := by omega
  have HKC := hidden kc
  clear h kc hft
  go_enter Tryd.func22, Tryd.ntmps22
  go_upto_region 1 with fail
  generalize hw1 : w.alloc (.cells _ 37) = w1 at *
  obtain ⟨G, hG⟩ : ∃ G, w.heap.size = G := ⟨_, rfl⟩
  rw [hG] at HAT HB0
  have HCA := hidden (fun W (hW : Below w1.heap.size w1 W) => HAT.out.below hW)
  have HB1 := hidden (fun W (hW : Below w1.heap.size w1 W) => HB0.out.trans (hW.mono (by rw [← hG]; exact HB0.out.size)))
  have HGG := Is.mk hG
  obtain ⟨c0, c1, c2, c3, c4, c5⟩ := HAT.out
  simp only [Nat.zero_add] at c1 c2 c3 c4 c5
  simp only [hG]
  clear hw1 HAT hG
  go_upto_region 5 with (first
    | (go_at_call 40; (with_reducible refine (isName_yes s _ HNM.out).mono ?_); rintro e w' ⟨rfl, rfl⟩)
    | (go_at_call 41; (with_reducible refine (HE.out _).mono ?_); rintro e w2 ⟨rfl, hb⟩; clear c0 c1 c2 c3 c4 c5; have HB2 := hidden hb; clear hb)
    | fail)
  obtain ⟨c0, c1, c2, c3, c4, c5⟩ := HCA.out w2 HB2.out
  simp only [Nat.zero_add] at c1 c2 c3 c4 c5
  go_upto_region 7 with fail
  have hGl : G < w2.heap.size := World.block_lt_of_cell? w2 _ c0
  have kc := HKC.out
  have hw8 : ((s.size : Nat) : Int) % 256 = (s.size : Int) := by omega
  have hsz0 : (0 : Int) ≤ (s.size : Int) ∧ (s.size : Int) ≤ 255 := by omega
  have HWA : Hid (Byt (w2.alloc (.cells #[.int .u8 (s.size : Int)] 5)) (some ⟨w2.heap.size, 0, none⟩) 1 1 [(s.size : Int)]) := hidden (one_byte _ w2.heap.size _ hsz0 (by simp))
  obtain ⟨wa, hwa⟩ : ∃ W, W = w2.alloc (.cells #[.int .u8 (s.size : Int)] 5) := ⟨_, rfl⟩
  have hsa : wa.heap.size = w2.heap.size + 1 := by rw [hwa]; exact World.size_alloc _ _
  rw [← hwa] at HWA
  have HY1 := hidden (HWA.out.below (conv_below wa s))
  have HY2 := hidden (conv_str wa s (by unfold maxLen; omega))
  rw [hsa] at HY2
  have HCAT := hidden (cat2_any (Lib.bytesWorld wa 5 s) _ _ 1 s.size 1 (grownCap wa s.size 0 5) _ _ HY1.out HY2.out (by omega))
  rw [hwa] at HCAT
  have HBW : Hid (Below w2.heap.size w2 (Lib.bytesWorld wa 5 s)) := by
    have h9 : Below w2.heap.size w2 wa := by rw [hwa]; exact (Below.refl _ w2).alloc (Nat.le_refl _) _
    exact hidden (h9.trans ((conv_below wa s).mono (by omega)))
  rw [hwa] at HBW
  clear HWA hwa hsa HY1 HY2
  go_upto_region 8 with (first
    | (go_at_call 35; (with_reducible refine (HCAT.out).mono ?_); rintro e w4 ⟨v4, rfl, ho4, hb4⟩)
    | fail)
  clear c0 c1 c2 c3 c4 c5 kc HKC HCAT hw8 hsz0
  obtain ⟨L1, hL1⟩ : ∃ L, [(s.size : Int)] ++ letters s = L := ⟨_, rfl⟩
  have hl1 : L1.length = s.size + 1 := by rw [← hL1, List.length_append, HLL.eq]; simp; omega
  have hr1 : ∀ y ∈ L1, 0 ≤ y ∧ y ≤ 255 := by rw [← hL1]; exact rng_append (fun y hy => by simp at hy; omega) HLR.out
  obtain ⟨p4, d4, rfl, hy4⟩ := ho4.bytN hL1 hl1 hr1
  have HB4 := hidden (HB2.out.trans ((HBW.out.trans (hb4.mono HBW.out.size)).mono HB2.out.size))
  have HX5 := hidden (HP8.out p4 _ d4 w4 L1 hy4 (by omega))
  rw [hL1] at HBD
  have HLL1 := Is.mk hl1
  have HLR1 := hidden hr1
  obtain ⟨c0, c1, c2, c3, c4, c5⟩ := HCA.out w4 HB4.out
  simp only [Nat.zero_add] at c1 c2 c3 c4 c5
  clear ho4 hb4 hy4 hL1 hl1 hr1 HBW HB2 hGl HLL HLR
  go_upto_region 9 with (first
    | (go_at_call 42; (with_reducible refine (HX5.out).mono ?_); rintro e w5 ⟨v5, rfl, ho5, hb5⟩)
    | fail)
  clear c0 c1 c2 c3 c4 c5
  obtain ⟨p5, d5, rfl, hy5⟩ := ho5.bytN rfl (show (L1 ++ gbytes k).length = s.size + 9 by rw [List.length_append, HLL1.eq, HGL.eq]) (rng_append HLR1.out HGR.out)
  have HB5 := hidden (HB4.out.trans (hb5.mono HB4.out.size))
  have HX6 := hidden (HPF.out p5 _ d5 w5 _ hy5 (by omega))
  obtain ⟨c0, c1, c2, c3, c4, c5⟩ := HCA.out w5 HB5.out
  simp only [Nat.zero_add] at c1 c2 c3 c4 c5
  have k1 : IntKind.u64.wrap f = f := by rw [IntKind.wrap_u64]; omega
  have k2 : IntKind.u64.wrap t = t := by rw [IntKind.wrap_u64]; omega
  clear ho5 hb5 hy5 HB4 HX5
  go_upto_region 10 with (first
    | (go_at_call 42; (with_reducible refine (HX6.out).mono ?_); rintro e w6 ⟨v6, rfl, ho6, hb6⟩)
    | fail)
  clear c0 c1 c2 c3 c4 c5
  obtain ⟨p6, d6, rfl, hy6⟩ := ho6.bytN rfl (show ((L1 ++ gbytes k) ++ be 4 f).length = s.size + 13 by rw [List.length_append, List.length_append, HLL1.eq, HGL.eq, be_len]) (rng_append (rng_append HLR1.out HGR.out) (be_rng _ _))
  have HB6 := hidden (HB5.out.trans (hb6.mono HB5.out.size))
  have HX7 := hidden (HPT.out p6 _ d6 w6 _ hy6 (by omega))
  obtain ⟨c0, c1, c2, c3, c4, c5⟩ := HCA.out w6 HB6.out
  simp only [Nat.zero_add] at c1 c2 c3 c4 c5
  clear ho6 hb6 hy6 HB5 HX6
  go_upto_region 11 with (first
    | (go_at_call 42; (with_reducible refine (HX7.out).mono ?_); rintro e w7 ⟨v7, rfl, ho7, hb7⟩)
    | fail)
  clear c0 c1 c2 c3 c4 c5
  obtain ⟨p7, d7, rfl, hy7⟩ := ho7.bytN rfl (show (((L1 ++ gbytes k) ++ be 4 f) ++ be 4 t).length = s.size + 17 by rw [List.length_append, List.length_append, List.length_append, HLL1.eq, HGL.eq, be_len, be_len]) (rng_append (rng_append (rng_append HLR1.out HGR.out) (be_rng _ _)) (be_rng _ _))
  have HB7 := hidden (HB6.out.trans (hb7.mono HB6.out.size))
  have HX8 := hidden (HP1.out 1 (by omega) p7 _ d7 w7 _ hy7 (by omega))
  have HX9 := hidden (HP1.out 0 (by omega) p7 _ d7 w7 _ hy7 (by omega))
  obtain ⟨c0, c1, c2, c3, c4, c5⟩ := HCA.out w7 HB7.out
  simp only [Nat.zero_add] at c1 c2 c3 c4 c5
  clear ho7 hb7 hy7 HB6 HX7 k1 k2
  cases a with
  | true =>
    rw [if_pos rfl] at HBD
    have hbe : be 1 1 = [1] := by simp [be]
    rw [hbe, ← HBD.eq] at HX8
    generalize bdL _ = R at *
    clear HBD hbe
    go_wp2_with (first
      | (go_at_call 42; (with_reducible refine (HX8.out).mono ?_); rintro e w8 ⟨v8, rfl, ho8, hb8⟩; obtain ⟨p8, d8, rfl, hy8⟩ := ho8.byt HBR.out; have HY8 := hidden hy8; have HB8 := hidden (HB1.out w8 (HB7.out.trans (hb8.mono HB7.out.size))); clear ho8 hb8 hy8)
      | fail)
    go_ret2
    exact ⟨_, _, _, rfl, HY8.out, by rw [HGG.eq]; exact HB8.out⟩
  | false =>
    rw [if_neg (by decide)] at HBD
    have hbe : be 1 0 = [0] := by simp [be]
    rw [hbe, ← HBD.eq] at HX9
    generalize bdL _ = R at *
    clear HBD hbe
    go_wp2_with (first
      | (go_at_call 42; (with_reducible refine (HX9.out).mono ?_); rintro e w8 ⟨v8, rfl, ho8, hb8⟩; obtain ⟨p8, d8, rfl, hy8⟩ := ho8.byt HBR.out; have HY8 := hidden hy8; have HB8 := hidden (HB1.out w8 (HB7.out.trans (hb8.mono HB7.out.size))); clear ho8 hb8 hy8)
      | fail)
    go_ret2
    exact ⟨_, _, _, rfl, HY8.out, by rw [HGG.eq]; exact HB8.out⟩
end Go.Proofs.YtkniifopfgeopaaDoor
