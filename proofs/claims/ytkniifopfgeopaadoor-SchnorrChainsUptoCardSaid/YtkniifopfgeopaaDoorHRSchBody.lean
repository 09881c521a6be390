/-
  Body of a certificate that is valid: the document's.
-/
import Derived.Test.YtkniifopfgeopaaDoorHSchBody
import Derived.Deep.RegionHeld3
namespace Go.Proofs.YtkniifopfgeopaaDoor
open Go.RowKit
set_option linter.unusedVariables false

/-- A literal's bytes are a row of the call's own. -/
theorem own_lit (w : World) (l : List Int) (n : Nat) (hn : l.length = n) (hb : n ≤ maxLen) : Own (w.alloc (.cells (l.map (Value.int .u8)).toArray 5)) w.heap.size 5 (.slice (some ⟨w.heap.size, 0, none⟩) n n) l := by
  subst hn
  exact ⟨by simp, Or.inr ⟨w.heap.size, l.length, _, rfl, Nat.le_refl _, heap_alloc_new w _, Nat.le_refl _, hb, by simp, by simp only [Nat.mul_one]; exact List.take_of_length_le (by simp)⟩⟩

set_option maxHeartbeats 3200000 in
set_option maxRecDepth 100000 in
theorem rbodyS_ok (x : Ct) (h : CtOk x) (w : World) : Calls Tryd.prog 23 #[.agg #[.string x.s, .int .u64 (x.k : Int), .int .i64 x.f, .int .i64 x.t, .bool x.a, .slice x.p x.n x.c]] w (BdTo (bdL x) w) := by
  have HAT := hidden (CtAt.new w x 37)
  have HB0 := hidden ((Below.refl w.heap.size w).alloc (Nat.le_refl _) (.cells #[.string x.s, .int .u64 (x.k : Int), .int .i64 x.f, .int .i64 x.t, .bool x.a, .slice x.p x.n x.c] 37))
  have HNM := hidden h.nm
  have HE := hidden (fun W => rgel_any x.k h.kl W)
  rw [h.ke] at HE
  have HBD : Is (bdL x) ((((([(x.s.size : Int)] ++ letters x.s) ++ gbytes x.k) ++ be 4 x.f) ++ be 4 x.t) ++ [if x.a then 1 else 0]) := ⟨rfl⟩
  have HBR := hidden (bdL_rng x h.nm)
  have hf0 := h.f0
  have hft := h.ft
  have ht1 := h.t1
  have hkl := h.kl
  obtain ⟨s, k, f, t, a, p, n, c, g⟩ := x
  simp only at *
  have HGB := hidden (fun W => rgbytes_own k hkl W)
  have HPF := hidden (fun (q : Option Addr) (N d : Nat) W (L : List Int) (hW : Byt W q N d L) (hN : N ≤ 1000) => rput_yes q N d L W hW (by omega) f (by omega) 4 (by omega) (by omega))
  have HPT := hidden (fun (q : Option Addr) (N d : Nat) W (L : List Int) (hW : Byt W q N d L) (hN : N ≤ 1000) => rput_yes q N d L W hW (by omega) t (by omega) 4 (by omega) (by omega))
  rw [show ((4 : Nat) : Int) = 4 from rfl] at HPF HPT
  have h2 := HNM.out.le
  have h1 := HNM.out.pos
  have HLL := Is.mk (letters_len s)
  have HLR := hidden (letters_rng s)
  have HGL := Is.mk (gbytes_len k)
  have HGR := hidden (gbytes_rng k)
  obtain ⟨i0, hi, hz0, hz1, hz2⟩ := info_parts Tryd.infoByte
  have e1 : ¬ f < 0 := by omega
  have e2 : ¬ t < f := by omega
  have e3 : ¬ (2147483647 : Int) < t := by omega
  have e4 : ¬ (2147483647 : Int) < f := by omega
  have e5 : ¬ t < 0 := by omega
  clear h hft
  go_enter Tryd.func23, Tryd.ntmps23
  go_upto_region 1 with fail
  generalize hw1 : w.alloc (.cells _ 37) = w1 at *
  obtain ⟨G, hG⟩ : ∃ G, w.heap.size = G := ⟨_, rfl⟩
  rw [hG] at HAT HB0
  have HCA := hidden (fun W (hW : Below w1.heap.size w1 W) => HAT.out.below hW)
  have HB1 := hidden (fun W (hW : Below w1.heap.size w1 W) => HB0.out.trans (hW.mono (by rw [← hG]; exact HB0.out.size)))
  have HGG := Is.mk hG
  obtain ⟨c0, c1, c2, c3, c4, c5⟩ := HAT.out
  simp only [Nat.zero_add] at c1 c2 c3 c4 c5
  simp only [hG]
  clear hw1 HAT hG
  go_upto_region 5 with (first
    | (go_at_call 43; (with_reducible refine (rName_yes s _ HNM.out).mono ?_); rintro e w' ⟨rfl, rfl⟩)
    | (go_at_call 44; (with_reducible refine (HE.out _).mono ?_); rintro e w2 ⟨rfl, hb⟩; clear c0 c1 c2 c3 c4 c5; have HB2 := hidden hb; clear hb)
    | fail)
  obtain ⟨c0, c1, c2, c3, c4, c5⟩ := HCA.out w2 HB2.out
  simp only [Nat.zero_add] at c1 c2 c3 c4 c5
  go_upto_region 7 with fail
  have hGl : G < w2.heap.size := World.block_lt_of_cell? w2 _ c0
  have hw8 : ((s.size : Nat) : Int) % 256 = (s.size : Int) := by omega
  have hsz0 : (0 : Int) ≤ (s.size : Int) ∧ (s.size : Int) ≤ 255 := by omega
  have HOA : Hid (Own (w2.alloc (.cells #[.int .u8 (s.size : Int)] 5)) w2.heap.size 5 (.slice (some ⟨w2.heap.size, 0, none⟩) 1 1) [(s.size : Int)]) := hidden (own_lit w2 [(s.size : Int)] 1 rfl (by decide))
  have hbA : Below w2.heap.size w2 (w2.alloc (.cells #[.int .u8 (s.size : Int)] 5)) := (Below.refl _ w2).alloc (Nat.le_refl _) _
  have HBA := hidden hbA
  clear hbA
  go_upto_region 8 with (first
    | (at_builtin; (refine Lib.wpList_append_own_string _ rfl _ _ 22 9 rfl w2.heap.size 5 i0 Tryd.underlying22 Tryd.underlying9 hi hz0 hz1 hz2 _ _ _ rfl HOA.out s rfl ?ba ?bb ?bc ?_; (case ba => (unfold maxLen; show 1 + s.size ≤ _; omega)); (case bb => (show 1 + s.size ≤ _; omega)); (case bc => exact Nat.le_trans (Nat.le_succ _) (Nat.le_of_eq (World.size_alloc _ _).symm))))
    | fail)
  intro v4 w4 ho4 hg4 hn4
  obtain ⟨L1, hL1⟩ : ∃ L, [(s.size : Int)] ++ letters s = L := ⟨_, rfl⟩
  have hl1 : L1.length = s.size + 1 := by rw [← hL1, List.length_append, letters_len]; simp; omega
  have hr1 : ∀ y ∈ L1, 0 ≤ y ∧ y ≤ 255 := by rw [← hL1]; exact rng_append (fun y hy => by simp at hy; omega) (letters_rng s)
  have ho5 : Own w4 w2.heap.size 5 v4 L1 := by
    unfold Own
    have hm : L1.map (Value.int .u8) = Value.int .u8 (s.size : Int) :: Lib.strCells s := by rw [← hL1]; simp [letters, Lib.strCells]
    rw [hm, hl1, Nat.add_comm]
    exact ho4
  have HO4 := hidden ho5
  have HB4 := hidden (HB2.out.trans ((HBA.out.grown hg4 HBA.out.size (fun j e => by simp [Value.ownBlock] at e; omega)).mono HB2.out.size))
  rw [hL1] at HBD
  have HLL1 := Is.mk hl1
  have HLR1 := hidden hr1
  have hz4 : w2.heap.size ≤ w4.heap.size := by have h8 := hg4.size; have h9 := HBA.out.size; omega
  have hz1b : w1.heap.size ≤ w2.heap.size := HB2.out.size
  have HATX := hidden (HCA.out w4 HB4.out)
  have HBX := hidden (HB4.out.trans (drew_below ⟨1, rfl⟩ : Below w1.heap.size w4 w4.drew))
  have HOD := hidden (HO4.out.drew)
  have k1 : IntKind.u64.wrap f = f := by rw [IntKind.wrap_u64]; omega
  have k2 : IntKind.u64.wrap t = t := by rw [IntKind.wrap_u64]; omega
  obtain ⟨B, hB⟩ : ∃ B, w2.heap.size = B := ⟨_, rfl⟩
  rw [hB] at HO4 HOD hz4 hz1b hGl
  clear ho4 hg4 hn4 ho5 hL1 hl1 hr1 c0 c1 c2 c3 c4 c5 hw8 hsz0 HOA HBA hB
  go_upto_region 8 with fail
  go_region_held3 (fun w' => w'.cell? ⟨G, 1, none⟩ = some (.int .u64 (k : Int)) ∧ w'.cell? ⟨G, 2, none⟩ = some (.int .i64 f)) (first | exact ⟨(HCA.out _ HBX.out).c1, (HCA.out _ HBX.out).c2⟩ | go_keep)
    (first
      | (go_at_call 46; (with_reducible refine (HGB.out _).mono ?_); rintro e wb ⟨vb, rfl, hob, hbb⟩; obtain ⟨pb, db, rfl, hyb⟩ := hob.bytN rfl HGL.eq HGR.out; have HYB := hidden hyb; have HOX := hidden (HOD.out.below hbb); have hzb := hbb.size; replace HBX := hidden (HBX.out.trans (hbb.mono HBX.out.size)); clear hob hbb hyb)
      | (go_at_call 45; (refine (HPF.out _ _ _ _ _ HYC.out (by omega)).mono ?_); rintro e wd ⟨vd, rfl, hod, hbd⟩; have HOE := hidden hod; replace HBX := hidden (HBX.out.trans (hbd.mono HBX.out.size)); clear hod hbd)
      | ((refine step_append_byt _ (by rfl) _ _ 22 (by rfl) B 5 i0 (.int .u8 0) Tryd.underlying22 hi hz0 hz1 hz2 rfl _ _ (by rfl) HOX.out _ _ _ _ (gbytes k) (by rfl) HYB.out (by rfl) (by rw [HLL1.eq]; omega) (by simp at hzb; omega) ?_); intro uc wc hoc hgc; obtain ⟨pc, dc, rfl, hyc⟩ := hoc.bytN rfl (show (L1 ++ gbytes k).length = s.size + 9 by rw [List.length_append, HLL1.eq, HGL.eq]) (rng_append HLR1.out HGR.out); have HYC := hidden hyc; replace HBX := hidden (HBX.out.grown hgc HBX.out.size (fun j hj => by have := (HOX.out.lt j hj).1; omega)); clear hoc hgc hyc))
  obtain ⟨pd, dd, rfl, hyd⟩ := HOE.out.bytN rfl (show ((L1 ++ gbytes k) ++ be 4 f).length = s.size + 13 by rw [List.length_append, List.length_append, HLL1.eq, HGL.eq, be_len]) (rng_append (rng_append HLR1.out HGR.out) (be_rng _ _))
  have HX7 := hidden (HPT.out pd _ dd wd _ hyd (by omega))
  obtain ⟨c0, c1, c2, c3, c4, c5⟩ := HCA.out wd HBX.out
  simp only [Nat.zero_add] at c1 c2 c3 c4 c5
  have HGD := hidden (HB1.out wd HBX.out).size
  have HBD1 := hidden HBX.out
  clear hyd HOE HYC HYB HOX HOD HO4 HB4 HATX k1 hzb
  go_upto_region 10 with (first
    | (go_at_call 45; (with_reducible refine (HX7.out).mono ?_); rintro e we ⟨ve, rfl, hoe, hbe⟩)
    | fail)
  clear c0 c1 c2 c3 c4 c5 k2
  have HOF := hidden hoe
  have HBE := hidden (HBD1.out.trans (hbe.mono HBD1.out.size))
  have HLF : Is ((((L1 ++ gbytes k) ++ be 4 f) ++ be 4 t)).length (s.size + 17) := ⟨by rw [List.length_append, List.length_append, List.length_append, HLL1.eq, HGL.eq, be_len, be_len]⟩
  have HGE := hidden (HB1.out we HBE.out).size
  rw [HGG.eq] at HGD HGE
  obtain ⟨c0, c1, c2, c3, c4, c5⟩ := HCA.out we HBE.out
  simp only [Nat.zero_add] at c1 c2 c3 c4 c5
  have hzde : wd.heap.size ≤ we.heap.size := hbe.size
  clear hoe hbe HX7 HBX HBD1
  cases a with
  | true =>
    rw [if_pos rfl] at HBD
    have hbit : (0 : Int) ≤ 1 ∧ (1 : Int) ≤ 255 := by decide
    go_wp2_with (first
      | (at_builtin; refine wpList_append_byt _ rfl _ _ 22 rfl wd.heap.size 5 i0 (.int .u8 0) Tryd.underlying22 hi hz0 hz1 hz2 rfl _ _ rfl (HOF.out.alloc _) _ _ _ _ _ rfl (one_byte _ _ 1 hbit ?c1) rfl ?c2 ?c3 ?_; (case c1 => (rw [World.cell?_alloc_at _ _ _ _ rfl]; rfl)); (case c2 => (rw [HLF.eq]; omega)); (case c3 => (have := World.size_alloc we (.cells #[.int .u8 1] 5); omega)))
      | fail)
    intro v8 w8 ho8 hg8
    have hbd := HBD.eq
    simp only [List.append_assoc] at hbd ho8
    rw [← hbd] at ho8
    clear hbd
    obtain ⟨p8, d8, rfl, hy8⟩ := ho8.byt HBR.out
    have HY8 := hidden hy8
    have HB8 := hidden ((HB1.out we HBE.out).alloc HGE.out (.cells #[.int .u8 1] 5))
    have HB9 := hidden (HB8.out.grown hg8 (by have := World.size_alloc we (.cells #[.int .u8 1] 5); have := HGE.out; omega) (fun j hj => by have := (HOF.out.lt j hj).1; have := HGD.out; omega))
    clear ho8 hg8 hy8
    go_wp2
    go_ret2
    exact ⟨_, _, _, rfl, HY8.out, by rw [HGG.eq]; exact HB9.out⟩
  | false =>
    rw [if_neg (by decide)] at HBD
    have hbit : (0 : Int) ≤ 0 ∧ (0 : Int) ≤ 255 := by decide
    go_wp2_with (first
      | (at_builtin; refine wpList_append_byt _ rfl _ _ 22 rfl wd.heap.size 5 i0 (.int .u8 0) Tryd.underlying22 hi hz0 hz1 hz2 rfl _ _ rfl (HOF.out.alloc _) _ _ _ _ _ rfl (one_byte _ _ 0 hbit ?c1) rfl ?c2 ?c3 ?_; (case c1 => (rw [World.cell?_alloc_at _ _ _ _ rfl]; rfl)); (case c2 => (rw [HLF.eq]; omega)); (case c3 => (have := World.size_alloc we (.cells #[.int .u8 0] 5); omega)))
      | fail)
    intro v8 w8 ho8 hg8
    have hbd := HBD.eq
    simp only [List.append_assoc] at hbd ho8
    rw [← hbd] at ho8
    clear hbd
    obtain ⟨p8, d8, rfl, hy8⟩ := ho8.byt HBR.out
    have HY8 := hidden hy8
    have HB8 := hidden ((HB1.out we HBE.out).alloc HGE.out (.cells #[.int .u8 0] 5))
    have HB9 := hidden (HB8.out.grown hg8 (by have := World.size_alloc we (.cells #[.int .u8 0] 5); have := HGE.out; omega) (fun j hj => by have := (HOF.out.lt j hj).1; have := HGD.out; omega))
    clear ho8 hg8 hy8
    go_wp2
    go_ret2
    exact ⟨_, _, _, rfl, HY8.out, by rw [HGG.eq]; exact HB9.out⟩
end Go.Proofs.YtkniifopfgeopaaDoor
