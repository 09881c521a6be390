/-
  Octets and Shared, keys' and the document's.
-/
import Derived.Test.YtgpigjoonhghhaaDoorQKeyFn
import Derived.Test.YtgpigjoonhghhaaDoorQRShaPad
import Derived.Lib.SlBytesConst
namespace Go.Proofs.YtgpigjoonhghhaaDoor
open Go.RowKit
set_option linter.unusedVariables false
theorem Own.lit (w : World) (base : Nat) (e : TypeId) (xs : List Int) (cs : Array Value) (hcs : cs = (xs.map (Value.int .u8)).toArray) (hb : base ≤ w.heap.size) (n : Nat) (hn : xs.length = n) (hm : n ≤ maxLen) : Own (w.alloc (.cells cs e)) base e (.slice (some ⟨w.heap.size, 0, none⟩) n n) xs := by
  subst hcs hn
  exact ⟨by simp, .inr ⟨w.heap.size, xs.length, _, rfl, hb, heap_alloc_new w _, Nat.le_refl _, hm, by simp, by simp [List.take_of_length_le]⟩⟩
theorem hmac_to (p q : Option Addr) (n c m d : Nat) (key b : List Int) (w : World) (h : Byt w p n c key) (hn : n ≤ 100000) (k : Byt w q m d b) (hm : m ≤ 100000) (hK : KAt w) :
    Calls Tryd.prog 30 #[.slice p n c, .slice q m d] w (ToV (hmacS key b) w) := hmac_any p q n c m d key b w h (by omega) k (by omega) hK
theorem rhmac_to (p q : Option Addr) (n c m d : Nat) (key b : List Int) (w : World) (h : Byt w p n c key) (hn : n ≤ 100000) (k : Byt w q m d b) (hm : m ≤ 100000) :
    Calls Tryd.prog 36 #[.slice p n c, .slice q m d] w (ToV (hmacS key b) w) := rhmac_any p q n c m d key b w h (by omega) k (by omega)
theorem cat2_to (w : World) (p0 p1 : Option Addr) (n0 n1 c0 c1 : Nat) (x0 x1 : List Int) (h0 : Byt w p0 n0 c0 x0) (h1 : Byt w p1 n1 c1 x1) (hs : n0 + n1 ≤ 140737488355328) :
    Calls Tryd.prog 34 #[.slice (some ⟨w.heap.size, 0, none⟩) 2 2] (w.alloc (.cells #[.slice p0 n0 c0, .slice p1 n1 c1] 22)) (ToV (x0 ++ x1) w) := cat2_any w p0 p1 n0 n1 c0 c1 x0 x1 h0 h1 hs
theorem padB_rng : ∀ x ∈ padB, 0 ≤ x ∧ x ≤ 255 := by decide
theorem lit17 (w : World) (T : TypeId) (fz : Nat × Nat) : Byt (w.alloc (.cells #[.int .u8 75, .int .u8 101, .int .u8 121, .int .u8 32, .int .u8 80, .int .u8 97, .int .u8 100, .int .u8 32, .int .u8 102, .int .u8 111, .int .u8 114, .int .u8 32, .int .u8 73, .int .u8 75, .int .u8 69, .int .u8 118, .int .u8 50] T fz)) (some ⟨w.heap.size, 0, none⟩) 17 17 padB := by
  refine ⟨rfl, Nat.le_refl _, by decide, padB_rng, fun _ => ⟨w.heap.size, 0, rfl, fun i hi => ?_⟩⟩
  rw [Nat.zero_add]
  refine (cell_of_row _ _ _ _ _ _ (heap_alloc_new _ _)).trans ?_
  show ((padB.map (Value.int .u8)).toArray)[i]? = _
  simp [List.getD_eq_getElem?_getD, List.getElem?_eq_getElem hi]
theorem lit4 (w : World) (T : TypeId) (k : Int) (hk : 0 ≤ k ∧ k ≤ 255) : Byt (w.alloc (.cells #[.int .u8 k, .int .u8 0, .int .u8 0, .int .u8 0] T)) (some ⟨w.heap.size, 0, none⟩) 4 4 [k, 0, 0, 0] := by
  obtain ⟨p, c, e, h⟩ := (Own.lit w w.heap.size T [k, 0, 0, 0] _ rfl (Nat.le_refl _) 4 rfl (by decide)).bytN rfl rfl (by simp; omega)
  cases e
  exact h
theorem octR_len (m n p : List Int) (k : Int) (d : List Int) : (octR m n p k d).length = m.length + (n.length + 32) := by unfold octR; rw [List.length_append, List.length_append, hmacS_len]
theorem octR_rng {m n : List Int} (p : List Int) (k : Int) (d : List Int) (hm : ∀ x ∈ m, 0 ≤ x ∧ x ≤ 255) (hn : ∀ x ∈ n, 0 ≤ x ∧ x ≤ 255) : ∀ x ∈ octR m n p k d, 0 ≤ x ∧ x ≤ 255 := rng_append hm (rng_append hn (hmacS_rng _ _))
set_option maxHeartbeats 1600000 in
set_option maxRecDepth 100000 in
theorem kshared_any (p q : Option Addr) (n c m d : Nat) (s o : List Int) (w : World) (h : Byt w p n c s) (hn : n ≤ 2000) (k : Byt w q m d o) (hm : m ≤ 3000) (hK : KAt w) :
    Calls Tryd.prog 23 #[.slice p n c, .slice q m d] w (ToV (shaR s o) w) := by
  have hb0 := (Below.refl w.heap.size w).alloc (Nat.le_refl _) (.cells #[.int .u8 75, .int .u8 101, .int .u8 121, .int .u8 32, .int .u8 80, .int .u8 97, .int .u8 100, .int .u8 32, .int .u8 102, .int .u8 111, .int .u8 114, .int .u8 32, .int .u8 73, .int .u8 75, .int .u8 69, .int .u8 118, .int .u8 50] 5 (17, 18))
  have HB0 := hidden hb0
  have H1 := hidden (hmac_to p (some ⟨w.heap.size, 0, none⟩) n c 17 17 s padB _ (h.below hb0) (by omega) (lit17 w 5 (17, 18)) (by omega) (hK.below hb0 hK.lt))
  have H2 := hidden (fun (q' : Option Addr) (d' : Nat) W (hB : Below w.heap.size w W) (hY : Byt W q' 32 d' (hmacS s padB)) => hmac_to q' q 32 d' m d (hmacS s padB) o W hY (by omega) (k.below hB) (by omega) (hK.below hB hK.lt))
  have HL := Is.mk (hmacS_len s padB)
  have HR := hidden (hmacS_rng s padB)
  have HT : Is (hmacS (hmacS s padB) o) (shaR s o) := ⟨rfl⟩
  generalize shaR s o = T at *
  generalize hmacS s padB = X at *
  rw [HT.eq] at H2
  clear h k hK hb0
  have kc := Lib.run_convert_bytes_const (P := Tryd.prog) w 22 5 #[.int .u8 75, .int .u8 101, .int .u8 121, .int .u8 32, .int .u8 80, .int .u8 97, .int .u8 100, .int .u8 32, .int .u8 102, .int .u8 111, .int .u8 114, .int .u8 32, .int .u8 73, .int .u8 75, .int .u8 69, .int .u8 118, .int .u8 50] 17 17 Tryd.underlying22 Tryd.underlying5
  go_enter Tryd.func23, Tryd.ntmps23
  go_wp2_with (first
    | (go_at_call 30; (with_reducible refine (H1.out).mono ?_); rintro e w2 ⟨v2, rfl, ho2, hb2⟩; obtain ⟨q2, d2, rfl, hy2⟩ := ho2.bytN rfl HL.eq HR.out; have HB2 := hidden (HB0.out.trans (hb2.mono HB0.out.size)); have H22 := hidden (H2.out q2 d2 w2 HB2.out hy2); clear ho2 hb2 hy2 H1)
    | (go_at_call 30; (with_reducible refine (H22.out).mono ?_); rintro e w3 ⟨v3, rfl, ho3, hb3⟩; have HB3 := hidden (HB2.out.trans (hb3.mono HB2.out.size)); have HO3 := hidden (ho3.mono HB2.out.size); clear ho3 hb3)
    | fail)
  go_ret
  exact ⟨_, rfl, HO3.out, HB3.out⟩
set_option maxHeartbeats 1600000 in
set_option maxRecDepth 100000 in
theorem rkshared_any (p q : Option Addr) (n c m d : Nat) (s o : List Int) (w : World) (h : Byt w p n c s) (hn : n ≤ 2000) (k : Byt w q m d o) (hm : m ≤ 3000) :
    Calls Tryd.prog 24 #[.slice p n c, .slice q m d] w (ToV (shaR s o) w) := by
  have hb0 := (Below.refl w.heap.size w).alloc (Nat.le_refl _) (.cells #[.int .u8 75, .int .u8 101, .int .u8 121, .int .u8 32, .int .u8 80, .int .u8 97, .int .u8 100, .int .u8 32, .int .u8 102, .int .u8 111, .int .u8 114, .int .u8 32, .int .u8 73, .int .u8 75, .int .u8 69, .int .u8 118, .int .u8 50] 5 (17, 18))
  have HB0 := hidden hb0
  have H1 := hidden (rhmac_to p (some ⟨w.heap.size, 0, none⟩) n c 17 17 s padB _ (h.below hb0) (by omega) (lit17 w 5 (17, 18)) (by omega))
  have H2 := hidden (fun (q' : Option Addr) (d' : Nat) W (hB : Below w.heap.size w W) (hY : Byt W q' 32 d' (hmacS s padB)) => rhmac_to q' q 32 d' m d (hmacS s padB) o W hY (by omega) (k.below hB) (by omega))
  have HL := Is.mk (hmacS_len s padB)
  have HR := hidden (hmacS_rng s padB)
  have HT : Is (hmacS (hmacS s padB) o) (shaR s o) := ⟨rfl⟩
  generalize shaR s o = T at *
  generalize hmacS s padB = X at *
  rw [HT.eq] at H2
  clear h k hb0
  have kc := Lib.run_convert_bytes_const (P := Tryd.prog) w 22 5 #[.int .u8 75, .int .u8 101, .int .u8 121, .int .u8 32, .int .u8 80, .int .u8 97, .int .u8 100, .int .u8 32, .int .u8 102, .int .u8 111, .int .u8 114, .int .u8 32, .int .u8 73, .int .u8 75, .int .u8 69, .int .u8 118, .int .u8 50] 17 17 Tryd.underlying22 Tryd.underlying5
  go_enter Tryd.func24, Tryd.ntmps24
  go_wp2_with (first
    | (go_at_call 36; (with_reducible refine (H1.out).mono ?_); rintro e w2 ⟨v2, rfl, ho2, hb2⟩; obtain ⟨q2, d2, rfl, hy2⟩ := ho2.bytN rfl HL.eq HR.out; have HB2 := hidden (HB0.out.trans (hb2.mono HB0.out.size)); have H22 := hidden (H2.out q2 d2 w2 HB2.out hy2); clear ho2 hb2 hy2 H1)
    | (go_at_call 36; (with_reducible refine (H22.out).mono ?_); rintro e w3 ⟨v3, rfl, ho3, hb3⟩; have HB3 := hidden (HB2.out.trans (hb3.mono HB2.out.size)); have HO3 := hidden (ho3.mono HB2.out.size); clear ho3 hb3)
    | fail)
  go_ret
  exact ⟨_, rfl, HO3.out, HB3.out⟩
set_option maxHeartbeats 1600000 in
set_option maxRecDepth 100000 in
theorem koct_any (p0 p1 p2 p3 : Option Addr) (n0 n1 n2 n3 c0 c1 c2 c3 : Nat) (x0 x1 x2 x3 : List Int) (k : Int) (w : World) (h0 : Byt w p0 n0 c0 x0) (h1 : Byt w p1 n1 c1 x1) (h2 : Byt w p2 n2 c2 x2) (h3 : Byt w p3 n3 c3 x3) (hk : 0 ≤ k ∧ k ≤ 255)
    (b0 : n0 ≤ 2000) (b1 : n1 ≤ 2000) (b2 : n2 ≤ 2000) (b3 : n3 ≤ 2000) (hK : KAt w) :
    Calls Tryd.prog 21 #[.slice p0 n0 c0, .slice p1 n1 c1, .slice p2 n2 c2, .agg #[.int .i64 k, .slice p3 n3 c3]] w (ToV (octR x0 x1 x2 k x3) w) := by
  have hba := (Below.refl w.heap.size w).alloc (Nat.le_refl _) (.cells #[.int .i64 k, .slice p3 n3 c3] 45)
  have hbb := hba.alloc hba.size (.cells #[.int .u8 k, .int .u8 0, .int .u8 0, .int .u8 0] 5)
  have HBB := hidden hbb
  have H1 := hidden (cat2_to _ (some ⟨(w.alloc (.cells #[.int .i64 k, .slice p3 n3 c3] 45)).heap.size, 0, none⟩) p3 4 n3 4 c3 [k, 0, 0, 0] x3 (lit4 (w.alloc (.cells #[.int .i64 k, .slice p3 n3 c3] 45)) 5 k hk) (h3.below hbb) (by omega))
  simp only [World.size_alloc] at H1
  rw [show [k, 0, 0, 0] ++ x3 = k :: 0 :: 0 :: 0 :: x3 from rfl] at H1
  have hDl : (k :: 0 :: 0 :: 0 :: x3).length = 4 + n3 := by simp [h3.len]; omega
  have hDr : ∀ y ∈ k :: 0 :: 0 :: 0 :: x3, 0 ≤ y ∧ y ≤ 255 := rng_append (xs := [k, 0, 0, 0]) (by simp; omega) h3.rng
  have H2 := hidden (fun (q' : Option Addr) (d' : Nat) W (hB : Below w.heap.size w W) (hY : Byt W q' (4 + n3) d' (k :: 0 :: 0 :: 0 :: x3)) => hmac_to p2 q' n2 c2 (4 + n3) d' x2 _ W (h2.below hB) (by omega) hY (by omega) (hK.below hB hK.lt))
  have H3 := hidden (fun (q' : Option Addr) (d' : Nat) W (hB : Below w.heap.size w W) (hY : Byt W q' 32 d' (hmacS x2 (k :: 0 :: 0 :: 0 :: x3))) => catK W p0 p1 q' n0 n1 32 c0 c1 d' x0 x1 _ (h0.below hB) (h1.below hB) hY (by omega))
  have HM := Is.mk (hmacS_len x2 (k :: 0 :: 0 :: 0 :: x3))
  have HMR := hidden (hmacS_rng x2 (k :: 0 :: 0 :: 0 :: x3))
  have HT : Is (x0 ++ (x1 ++ hmacS x2 (k :: 0 :: 0 :: 0 :: x3))) (octR x0 x1 x2 k x3) := ⟨rfl⟩
  rw [HT.eq] at H3
  generalize octR x0 x1 x2 k x3 = T at *
  generalize hmacS x2 (k :: 0 :: 0 :: 0 :: x3) = X at *
  generalize k :: 0 :: 0 :: 0 :: x3 = D at *
  have HDL := Is.mk hDl
  have HDR := hidden hDr
  obtain ⟨N, hN⟩ : ∃ N, 4 + n3 = N := ⟨_, rfl⟩
  rw [hN] at HDL H2
  clear h0 h1 h2 h3 hK hba hbb hDl hDr hN HT
  have hwr : IntKind.u8.wrap k = k := by rw [IntKind.wrap_u8]; omega
  go_enter Tryd.func21, Tryd.ntmps21
  go_wp2_with (first
    | (go_at_call 34; (with_reducible refine (H1.out).mono ?_); rintro e w2 ⟨v2, rfl, ho2, hb2⟩; obtain ⟨q2, d2, rfl, hy2⟩ := ho2.bytN rfl HDL.eq HDR.out; have HB2 := hidden (HBB.out.trans (hb2.mono HBB.out.size)); have H22 := hidden (H2.out q2 d2 w2 HB2.out hy2); clear ho2 hb2 hy2 H1 H2)
    | (go_at_call 30; (with_reducible refine (H22.out).mono ?_); rintro e w3 ⟨v3, rfl, ho3, hb3⟩; obtain ⟨q3, d3, rfl, hy3⟩ := ho3.bytN rfl HM.eq HMR.out; have HB3 := hidden (HB2.out.trans (hb3.mono HB2.out.size)); have H33 := hidden (H3.out q3 d3 w3 HB3.out hy3); clear ho3 hb3 hy3 H22 H3)
    | (go_at_call 34; (with_reducible refine (H33.out).mono ?_); rintro e w4 ⟨v4, rfl, ho4, hb4⟩; have HB4 := hidden (HB3.out.trans (hb4.mono HB3.out.size)); have HO4 := hidden (ho4.mono HB3.out.size); clear ho4 hb4)
    | fail)
  go_ret
  exact ⟨_, rfl, HO4.out, HB4.out⟩
set_option maxHeartbeats 1600000 in
set_option maxRecDepth 100000 in
theorem rkoct_any (p0 p1 p2 p3 : Option Addr) (n0 n1 n2 n3 c0 c1 c2 c3 : Nat) (x0 x1 x2 x3 : List Int) (k : Int) (w : World) (h0 : Byt w p0 n0 c0 x0) (h1 : Byt w p1 n1 c1 x1) (h2 : Byt w p2 n2 c2 x2) (h3 : Byt w p3 n3 c3 x3) (hk : 0 ≤ k ∧ k ≤ 255)
    (b0 : n0 ≤ 2000) (b1 : n1 ≤ 2000) (b2 : n2 ≤ 2000) (b3 : n3 ≤ 2000) :
    Calls Tryd.prog 22 #[.slice p0 n0 c0, .slice p1 n1 c1, .slice p2 n2 c2, .agg #[.int .i64 k, .slice p3 n3 c3]] w (ToV (octR x0 x1 x2 k x3) w) := by
  obtain ⟨i0, hi, hz0, hz1, hz2⟩ := info_parts Tryd.infoByte
  have hba := (Below.refl w.heap.size w).alloc (Nat.le_refl _) (.cells #[.int .i64 k, .slice p3 n3 c3] 45)
  have hbb := hba.alloc hba.size (.cells #[.int .u8 k, .int .u8 0, .int .u8 0, .int .u8 0] 5)
  have HBB := hidden hbb
  have ho4 := Own.lit (w.alloc (.cells #[.int .i64 k, .slice p3 n3 c3] 45)) w.heap.size 5 [k, 0, 0, 0] _ rfl hba.size 4 rfl (by decide)
  simp only [World.size_alloc] at ho4
  have HO := hidden ho4
  have H3Y := hidden (h3.below hbb)
  have HSZ := hidden hbb.size
  have hDl : (k :: 0 :: 0 :: 0 :: x3).length = 4 + n3 := by simp [h3.len]; omega
  have hDr : ∀ y ∈ k :: 0 :: 0 :: 0 :: x3, 0 ≤ y ∧ y ≤ 255 := rng_append (xs := [k, 0, 0, 0]) (by simp; omega) h3.rng
  have HAP : Is ([k, 0, 0, 0] ++ x3) (k :: 0 :: 0 :: 0 :: x3) := ⟨rfl⟩
  have H2 := hidden (fun (q' : Option Addr) (d' : Nat) W (hB : Below w.heap.size w W) (hY : Byt W q' (4 + n3) d' (k :: 0 :: 0 :: 0 :: x3)) => rhmac_to p2 q' n2 c2 (4 + n3) d' x2 _ W (h2.below hB) (by omega) hY (by omega))
  have H3 := hidden (fun (q' : Option Addr) (d' : Nat) W (hB : Below w.heap.size w W) (hY : Byt W q' 32 d' (hmacS x2 (k :: 0 :: 0 :: 0 :: x3))) => rcatK W p0 p1 q' n0 n1 32 c0 c1 d' x0 x1 _ (h0.below hB) (h1.below hB) hY (by omega))
  have HM := Is.mk (hmacS_len x2 (k :: 0 :: 0 :: 0 :: x3))
  have HMR := hidden (hmacS_rng x2 (k :: 0 :: 0 :: 0 :: x3))
  have HT : Is (x0 ++ (x1 ++ hmacS x2 (k :: 0 :: 0 :: 0 :: x3))) (octR x0 x1 x2 k x3) := ⟨rfl⟩
  rw [HT.eq] at H3
  generalize octR x0 x1 x2 k x3 = T at *
  generalize hmacS x2 (k :: 0 :: 0 :: 0 :: x3) = X at *
  generalize k :: 0 :: 0 :: 0 :: x3 = D at *
  have HDL := Is.mk hDl
  have HDR := hidden hDr
  obtain ⟨N, hN⟩ : ∃ N, 4 + n3 = N := ⟨_, rfl⟩
  rw [hN] at HDL H2
  have hroom : [k, (0 : Int), 0, 0].length + n3 ≤ 140737488355328 := by simp; omega
  clear h0 h1 h2 h3 hba hbb hDl hDr hN HT ho4
  have hwr : IntKind.u8.wrap k = k := by rw [IntKind.wrap_u8]; omega
  go_enter Tryd.func22, Tryd.ntmps22
  go_wp2_with (first
    | (at_builtin; go_loud (refine wpList_append_byt _ rfl _ _ 22 rfl w.heap.size 5 i0 (.int .u8 0) Tryd.underlying22 hi hz0 hz1 hz2 rfl _ _ rfl HO.out _ _ _ _ _ rfl H3Y.out rfl hroom HSZ.out ?_))
    | fail)
  intro u w2 ho2 hg2
  have ho2' : Own w2 w.heap.size 5 u D := by rw [← HAP.eq]; exact ho2
  obtain ⟨q2, d2, rfl, hy2⟩ := ho2'.bytN rfl HDL.eq HDR.out
  have HB2 := hidden (HBB.out.grown hg2 HBB.out.size (fun i hi => (HO.out.lt i hi).1))
  have H22 := hidden (H2.out q2 d2 w2 HB2.out hy2)
  clear ho2 ho2' hg2 hy2 H2
  go_wp2_with (first
    | (go_at_call 36; (with_reducible refine (H22.out).mono ?_); rintro e w3 ⟨v3, rfl, ho3, hb3⟩; obtain ⟨q3, d3, rfl, hy3⟩ := ho3.bytN rfl HM.eq HMR.out; have HB3 := hidden (HB2.out.trans (hb3.mono HB2.out.size)); have H33 := hidden (H3.out q3 d3 w3 HB3.out hy3); clear ho3 hb3 hy3 H22 H3)
    | (go_at_call 37; (with_reducible refine (H33.out).mono ?_); rintro e w4 ⟨v4, rfl, ho4, hb4⟩; have HB4 := hidden (HB3.out.trans (hb4.mono HB3.out.size)); have HO4 := hidden (ho4.mono HB3.out.size); clear ho4 hb4)
    | fail)
  go_ret
  exact ⟨_, rfl, HO4.out, HB4.out⟩
end Go.Proofs.YtgpigjoonhghhaaDoor
