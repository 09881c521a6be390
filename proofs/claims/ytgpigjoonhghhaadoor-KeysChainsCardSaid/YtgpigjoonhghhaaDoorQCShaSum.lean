/-
  sha256.Sum: the hash of any bytes.
-/
import Derived.Test.YtgpigjoonhghhaaDoorQCShaBlocks
import Derived.Test.YtgpigjoonhghhaaDoorQCShaPad
import Derived.Test.YtgpigjoonhghhaaDoorQCConcat
import Derived.Deep.RegionWith
import Derived.Deep.Cut
import Derived.Deep.CutRange
import Derived.Deep.RegionLaw
namespace Go.Proofs.YtgpigjoonhghhaaDoor
open Go.RowKit
set_option linter.unusedVariables false
structure W8 (w : World) (g : Nat) (s : H8) : Prop where
  c0 : w.cell? ⟨g, 0, none⟩ = some (.int .u32 s.a)
  c1 : w.cell? ⟨g, 1, none⟩ = some (.int .u32 s.b)
  c2 : w.cell? ⟨g, 2, none⟩ = some (.int .u32 s.c)
  c3 : w.cell? ⟨g, 3, none⟩ = some (.int .u32 s.d)
  c4 : w.cell? ⟨g, 4, none⟩ = some (.int .u32 s.e)
  c5 : w.cell? ⟨g, 5, none⟩ = some (.int .u32 s.f)
  c6 : w.cell? ⟨g, 6, none⟩ = some (.int .u32 s.g)
  c7 : w.cell? ⟨g, 7, none⟩ = some (.int .u32 s.h)
  fr : ∀ j, w.frozen? ⟨g, j, none⟩ = false
theorem Wd.w8 {w : World} {g : Nat} {t : TypeId} {s : H8} (h : Wd w g t s.list) : W8 w g s :=
  ⟨h.cell 0 (by simp [H8.list]), h.cell 1 (by simp [H8.list]), h.cell 2 (by simp [H8.list]), h.cell 3 (by simp [H8.list]), h.cell 4 (by simp [H8.list]), h.cell 5 (by simp [H8.list]), h.cell 6 (by simp [H8.list]), h.cell 7 (by simp [H8.list]), fun j => h.fr j⟩
theorem Wd.put8 {w : World} {g : Nat} {t : TypeId} {s : H8} (h : Wd w g t s.list) (r : H8) :
    Wd ((((((((w.setCell ⟨g, 0, none⟩ (.int .u32 r.a)).setCell ⟨g, 1, none⟩ (.int .u32 r.b)).setCell ⟨g, 2, none⟩ (.int .u32 r.c)).setCell ⟨g, 3, none⟩ (.int .u32 r.d)).setCell ⟨g, 4, none⟩ (.int .u32 r.e)).setCell ⟨g, 5, none⟩ (.int .u32 r.f)).setCell ⟨g, 6, none⟩ (.int .u32 r.g)).setCell ⟨g, 7, none⟩ (.int .u32 r.h)) g t r.list :=
  ((((((((h.set 0 r.a).set 1 r.b).set 2 r.c).set 3 r.d).set 4 r.e).set 5 r.f).set 6 r.g).set 7 r.h)
theorem bytes8_drop (l : List Int) (j : Nat) (hj : j < l.length) : bytes8 (l.drop j) = be 4 (l.getD j 0) ++ bytes8 (l.drop (j + 1)) := by
  rw [List.drop_eq_getElem_cons hj, bytes8]
  simp [List.getD_eq_getElem?_getD, hj]
theorem two_parts (w : World) (p0 p1 : Option Addr) (n0 n1 c0 c1 : Nat) (x0 x1 : List Int) (T : TypeId) (h0 : Byt w p0 n0 c0 x0) (h1 : Byt w p1 n1 c1 x1) : Parts (w.alloc (.cells #[.slice p0 n0 c0, .slice p1 n1 c1] T)) (some ⟨w.heap.size, 0, none⟩) 2 2 [⟨p0, n0, c0, x0⟩, ⟨p1, n1, c1, x1⟩] :=
  ⟨rfl, Nat.le_refl _, by decide, fun _ => ⟨w.heap.size, rfl, fun j hj => by
    have : j = 0 ∨ j = 1 := by simp at hj; omega
    rcases this with rfl | rfl <;> go_simp⟩, fun x hx => by
    simp at hx
    rcases hx with rfl | rfl
    · exact h0.alloc _
    · exact h1.alloc _⟩
set_option maxHeartbeats 1600000 in
set_option maxRecDepth 100000 in
theorem sum_any (p : Option Addr) (n c : Nat) (xs : List Int) (w : World) (h : Byt w p n c xs) (hb : n ≤ 140737488351232) (hK : KAt w) :
    Calls Tryd.prog 51 #[.slice p n c] w (BytesPut w (shaS xs)) := by
  obtain ⟨R, hR⟩ : ∃ R, shaS xs = R := ⟨_, rfl⟩
  obtain ⟨s0, hs0⟩ : ∃ s0, initS = s0 := ⟨_, rfl⟩
  have hlen := h.len
  have HRL : Is R.length 32 := ⟨by rw [← hR]; exact shaS_len xs⟩
  have HRR : Hid (∀ x ∈ R, 0 ≤ x ∧ x ≤ 255) := by rw [← hR]; exact shaS_rng xs
  obtain ⟨k, hk⟩ : ∃ k, xs.length / 64 = k := ⟨_, rfl⟩
  have hsp := shaS_split xs k hk.symm
  obtain ⟨m, hm⟩ : ∃ m, 64 * k = m := ⟨_, rfl⟩
  rw [hm] at hsp
  have hmi : (n : Int) - (n : Int) % 64 = (m : Int) := by omega
  have hmn : m ≤ n := by omega
  rw [hR] at hsp ⊢
  rw [hs0, hlen] at hsp
  have hmc : m ≤ c := Nat.le_trans hmn h.cap
  obtain ⟨T1, hT1⟩ : ∃ T1, blocksS k s0 (xs.take m) = T1 := ⟨_, rfl⟩
  rw [hT1] at hsp
  have HT1 := Is.mk hT1
  have HSP := Is.mk hsp
  have HM := Is.mk hm
  have HS0 := Is.mk hs0
  have HX := hidden h
  have HK := hidden hK
  clear hR hs0 hlen hk hsp hm h hK hT1
  go_enter Tryd.func51, Tryd.ntmps51
  go_upto_region 2 with fail
  generalize hw1 : w.alloc (.cells _ 81) = w1
  have hs : Wd w1 w.heap.size 81 s0.list := by
    rw [← hw1, ← HS0.eq]
    exact Wd.new w _ initS.list _ rfl
  have hb1 : Below w.heap.size w w1 := by
    rw [← hw1]
    exact (Below.refl _ w).alloc (Nat.le_refl _) _
  clear hw1
  have hX1 := HX.out.below hb1
  have HX1 := hidden hX1
  have HF1 := hidden (hX1.front m hmn)
  have HP1 := hidden (hX1.part m n hmn (Nat.le_refl _))
  have HK1 := hidden (HK.out.below hb1 HK.out.lt)
  have HW := hidden hs
  have HB := hidden hb1
  obtain ⟨c0, c1, c2, c3, c4, c5, c6, c7, fr⟩ := hs.w8
  have hlt := hs.lt
  clear hs hb1 hX1
  have HC1 : Hid (∀ W, Below w1.heap.size w1 W → Calls Tryd.prog 60 #[(.agg #[.int .u32 s0.a, .int .u32 s0.b, .int .u32 s0.c, .int .u32 s0.d, .int .u32 s0.e, .int .u32 s0.f, .int .u32 s0.g, .int .u32 s0.h]), .slice p m c] W fun e w' => e = .returned (.agg #[.int .u32 T1.a, .int .u32 T1.b, .int .u32 T1.c, .int .u32 T1.d, .int .u32 T1.e, .int .u32 T1.f, .int .u32 T1.g, .int .u32 T1.h]) ∧ Below W.heap.size W w') := by
    intro W hW
    have := blocks_any s0 p k c m (xs.take m) W HM.eq (HF1.out.below hW) (by omega) (HK1.out.below hW HK1.out.lt)
    rw [HT1.eq] at this
    exact this
  have HBD := hidden (show Below w1.heap.size w1 w1.drew from drew_below ⟨1, rfl⟩)
  go_upto_region 3 with fail
  go_region_with (go_at_call 60; (with_reducible refine (HC1.out _ HBD.out).mono ?_); rintro e w3 ⟨rfl, hb3⟩; have hw3 := HW.out.drew.below hb3; have HB3 := hidden (HB.out.drew.trans (hb3.mono (Nat.le_of_lt hlt))); have HW3 := hidden hw3; obtain ⟨e0, e1, e2, e3, e4, e5, e6, e7, fr3⟩ := hw3.w8; have f0 := fr3 0; have f1 := fr3 1; have f2 := fr3 2; have f3 := fr3 3; have f4 := fr3 4; have f5 := fr3 5; have f6 := fr3 6; have f7 := fr3 7; clear hb3 hw3 fr3)
  clear c0 c1 c2 c3 c4 c5 c6 c7 fr e0 e1 e2 e3 e4 e5 e6 e7 f0 f1 f2 f3 f4 f5 f6 f7
  have hW4 := HW3.out.put8 T1
  have hB4 := (((((((HB3.out.setCell (p := ⟨w.heap.size, 0, none⟩) (Nat.le_refl _) (.int .u32 T1.a)).setCell (p := ⟨w.heap.size, 1, none⟩) (Nat.le_refl _) (.int .u32 T1.b)).setCell (p := ⟨w.heap.size, 2, none⟩) (Nat.le_refl _) (.int .u32 T1.c)).setCell (p := ⟨w.heap.size, 3, none⟩) (Nat.le_refl _) (.int .u32 T1.d)).setCell (p := ⟨w.heap.size, 4, none⟩) (Nat.le_refl _) (.int .u32 T1.e)).setCell (p := ⟨w.heap.size, 5, none⟩) (Nat.le_refl _) (.int .u32 T1.f)).setCell (p := ⟨w.heap.size, 6, none⟩) (Nat.le_refl _) (.int .u32 T1.g)).setCell (p := ⟨w.heap.size, 7, none⟩) (Nat.le_refl _) (.int .u32 T1.h)
  clear HW3 HB3 HX1 HF1 HP1 HK1 HW HB HC1 HBD hlt
  go_upto_region 4 with fail
  generalize ((((((((w3.setCell ⟨w.heap.size, 0, none⟩ (.int .u32 T1.a)).setCell ⟨w.heap.size, 1, none⟩ (.int .u32 T1.b)).setCell ⟨w.heap.size, 2, none⟩ (.int .u32 T1.c)).setCell ⟨w.heap.size, 3, none⟩ (.int .u32 T1.d)).setCell ⟨w.heap.size, 4, none⟩ (.int .u32 T1.e)).setCell ⟨w.heap.size, 5, none⟩ (.int .u32 T1.f)).setCell ⟨w.heap.size, 6, none⟩ (.int .u32 T1.g)).setCell ⟨w.heap.size, 7, none⟩ (.int .u32 T1.h)) = w4 at *
  have hX4 := HX.out.below hB4
  have hP4 := hX4.part m n hmn (Nat.le_refl _)
  rw [List.take_of_length_le (by rw [hX4.len]; omega)] at hP4
  obtain ⟨L, hL⟩ : ∃ L, (padS n).length = L := ⟨_, rfl⟩
  have hL72 : L ≤ 72 := by rw [← hL, padS_len]; have := padZ_lt n; omega
  have hdiv := padS_div n
  rw [hL] at hdiv
  obtain ⟨bp, hbp⟩ : ∃ bp, (if c = m then p else Option.map (fun x : Addr => x.add m) p) = bp := ⟨_, rfl⟩
  rw [hbp] at hP4
  obtain ⟨X, hX⟩ : ∃ X, xs.drop m ++ padS n = X := ⟨_, rfl⟩
  have hXl : X.length = n - m + L := by rw [← hX, List.length_append, hL, hP4.len]
  have hXr : ∀ x ∈ X, 0 ≤ x ∧ x ≤ 255 := by rw [← hX]; exact rng_append hP4.rng (padS_rng n)
  obtain ⟨T2, hT2⟩ : ∃ T2, blocksS (X.length / 64) T1 X = T2 := ⟨_, rfl⟩
  have hR2 : R = bytes8 T2.list := by rw [HSP.eq, hX, hT2]
  have hmk := HM.eq
  have hkk : 64 * (X.length / 64) = n - m + L := by rw [hXl]; omega
  have HPL := Is.mk hL
  have HPR := hidden (padS_rng n)
  have HPAD := hidden (fun W => pad_any n (by omega) W)
  have HW4 := hidden hW4
  have HB4 := hidden hB4
  have HK4 := hidden (HK.out.below hB4 HK.out.lt)
  have HXL := Is.mk hXl
  have HXR := hidden hXr
  have HR2 := Is.mk hR2
  have HOK : Hid T2.ok := by
    rw [← hT2]
    refine blocksS_ok _ _ _ ?_
    rw [← HT1.eq, ← HS0.eq]
    exact blocksS_ok _ _ _ initS_ok
  have HT2 := Is.mk hT2
  have hlt4 : 0 < w4.heap.size := HK4.out.lt
  have HCC : Hid (∀ w5 q d, Below w4.heap.size w4 w5 → Byt w5 q L d (padS n) → Calls Tryd.prog 34 #[.slice (some ⟨w5.heap.size, 0, none⟩) 2 2] (w5.alloc (.cells #[.slice bp (n - m) (c - m), .slice q L d] 22)) fun e w' =>
      ∃ v, e = .returned v ∧ Own w' (w5.heap.size + 1) 5 v X ∧ Below (w5.heap.size + 1) (w5.alloc (.cells #[.slice bp (n - m) (c - m), .slice q L d] 22)) w') := by
    intro w5 q d hb5 hy5
    have := concat_any (some ⟨w5.heap.size, 0, none⟩) 2 2 _ _ (two_parts w5 bp q (n - m) L (c - m) d (xs.drop m) (padS n) 22 (hP4.below hb5) hy5) (by simp [sizeOf']; omega)
    simp only [bytesOf, List.flatMap_cons, List.flatMap_nil, List.append_nil, World.size_alloc, hX] at this
    exact this
  have HBK : Hid (∀ W q d, Below w4.heap.size w4 W → Byt W q (n - m + L) d X → Calls Tryd.prog 60 #[(.agg #[.int .u32 T1.a, .int .u32 T1.b, .int .u32 T1.c, .int .u32 T1.d, .int .u32 T1.e, .int .u32 T1.f, .int .u32 T1.g, .int .u32 T1.h]), .slice q (n - m + L) d] W fun e w' => e = .returned (.agg #[.int .u32 T2.a, .int .u32 T2.b, .int .u32 T2.c, .int .u32 T2.d, .int .u32 T2.e, .int .u32 T2.f, .int .u32 T2.g, .int .u32 T2.h]) ∧ Below W.heap.size W w') := by
    intro W q d hb5 hy5
    have := blocks_any T1 q (X.length / 64) d (n - m + L) X W hkk hy5 (by omega) (HK4.out.below hb5 HK4.out.lt)
    rw [HT2.eq] at this
    exact this
  obtain ⟨c0, c1, c2, c3, c4, c5, c6, c7, fr⟩ := hW4.w8
  have hlt := hW4.lt
  clear hW4 hB4 hX4 hP4 hL hdiv hX hXl hXr hT2 hR2 hmk hkk HSP HM HX HT1 HS0
  go_cut [] from 20 to 29 (fun wx => Wd wx w.heap.size 81 T2.list ∧ Below w.heap.size w wx)
  case first =>
   go_region_with (first
    | (go_at_call 61; (with_reducible refine (HPAD.out _).mono ?_); rintro e w5 ⟨v, rfl, hown, hbel⟩; obtain ⟨q, d, rfl, hbyt⟩ := hown.bytN rfl HPL.eq HPR.out; have HB5 := hidden (((Below.refl w4.heap.size w4).drew).trans hbel); have HY5 := hidden hbyt; have hlt5 := Nat.lt_of_lt_of_le hlt HB5.out.size; obtain ⟨g0, g1, g2, g3, g4, g5, g6, g7, fr5⟩ := (HW4.out.below HB5.out).w8; clear hown hbel hbyt fr5)
    | (go_at_call 34; (with_reducible refine (HCC.out _ _ _ HB5.out HY5.out).mono ?_); rintro e w6 ⟨v6, rfl, hown6, hbel6⟩; obtain ⟨q6, d6, rfl, hbyt6⟩ := hown6.bytN rfl HXL.eq HXR.out; have HB6 := hidden (HB5.out.trans (((Below.refl w4.heap.size _).alloc HB5.out.size _).trans (hbel6.mono (Nat.le_succ_of_le HB5.out.size)))); have HY6 := hidden hbyt6; obtain ⟨i0, i1, i2, i3, i4, i5, i6, i7, fr6⟩ := (HW4.out.below HB6.out).w8; clear hown6 hbel6 hbyt6 fr6)
    | (go_at_call 60; (with_reducible refine (HBK.out _ _ _ HB6.out HY6.out).mono ?_); rintro e w7 ⟨rfl, hbel7⟩; have HB7 := hidden (HB6.out.trans (hbel7.mono HB6.out.size)); have HW7 := hidden (HW4.out.below HB7.out); obtain ⟨e0, e1, e2, e3, e4, e5, e6, e7, fr7⟩ := HW7.out.w8; have f0 := fr7 0; have f1 := fr7 1; have f2 := fr7 2; have f3 := fr7 3; have f4 := fr7 4; have f5 := fr7 5; have f6 := fr7 6; have f7 := fr7 7; clear hbel7 fr7)
    | fail)
   all_goals
    go_wp2
    go_meet
    case rel =>
      exact ⟨HW7.out.put8 T2, ((((((((HB4.out.trans (HB7.out.mono HB4.out.size)).setCell (p := ⟨w.heap.size, 0, none⟩) (Nat.le_refl _) (.int .u32 T2.a)).setCell (p := ⟨w.heap.size, 1, none⟩) (Nat.le_refl _) (.int .u32 T2.b)).setCell (p := ⟨w.heap.size, 2, none⟩) (Nat.le_refl _) (.int .u32 T2.c)).setCell (p := ⟨w.heap.size, 3, none⟩) (Nat.le_refl _) (.int .u32 T2.d)).setCell (p := ⟨w.heap.size, 4, none⟩) (Nat.le_refl _) (.int .u32 T2.e)).setCell (p := ⟨w.heap.size, 5, none⟩) (Nat.le_refl _) (.int .u32 T2.f)).setCell (p := ⟨w.heap.size, 6, none⟩) (Nat.le_refl _) (.int .u32 T2.g)).setCell (p := ⟨w.heap.size, 7, none⟩) (Nat.le_refl _) (.int .u32 T2.h)⟩
  case rest =>
    obtain ⟨hw, hbc⟩ := hcut
    obtain ⟨i0, hi0, hz0, hz1, hz2⟩ := info_parts Tryd.infoU32
    have HL : Hid (wc.heap[w.heap.size]? = some (.cells #[.int .u32 T2.a, .int .u32 T2.b, .int .u32 T2.c, .int .u32 T2.d, .int .u32 T2.e, .int .u32 T2.f, .int .u32 T2.g, .int .u32 T2.h] 81 (0, 0))) := hw.heap
    have HIT : Hid (∀ (j : Nat), j < 8 → ∀ w' : World, (Instr.index 81 (.agg #[.int .u32 T2.a, .int .u32 T2.b, .int .u32 T2.c, .int .u32 T2.d, .int .u32 T2.e, .int .u32 T2.f, .int .u32 T2.g, .int .u32 T2.h]) (.int .i64 j)).run Tryd.prog w' = .ok (.int .u32 (T2.list.getD j 0)) w') := fun j hj w' => run_index (P := Tryd.prog) Tryd.underlying81 Tryd.underlying80 hi0 hz1 T2.list rfl j hj w'
    have HBC := hidden hbc
    have HB0 := hidden (Own.nil wc w.heap.size 5)
    have HR8 : Is ([] ++ bytes8 (T2.list.drop 0)) R := ⟨HR2.eq.symm⟩
    clear hw hbc hi0 hz0 hz1 hz2 HW4 HB4 HK4 hlt4 HCC HBK c0 c1 c2 c3 c4 c5 c6 c7 fr hlt HR2 HPAD HPR hbp
    go_wp2_with (first
      | (refine wpList_load_row rfl 81 _ rfl w.heap.size rfl 81 _ (0, 0) _ HL.out Tryd.underlying81 rfl info8 ?_)
      | fail)
    go_loopw [5, 31] (fun o i wr => ∃ (j : Nat) (L : List Int), j ≤ 8 ∧ i = .int .i64 j ∧ Own wr w.heap.size 5 o L ∧ Is (L ++ bytes8 (T2.list.drop j)) R ∧ Below w.heap.size w wr) (fun _ i _ => 8 - (intOf i).toNat)
    case atStart => exact ⟨0, [], by omega, rfl, HB0.out, HR8, HBC.out⟩
    case round =>
      obtain ⟨j, L, hj, rfl, ho, HLR, hb⟩ := hrel
      have hll : L.length ≤ 32 := by rw [← HRL.eq, ← HLR.eq]; simp
      have hlr : ∀ x ∈ L, 0 ≤ x ∧ x ≤ 255 := fun x hx => HRR.out x (by rw [← HLR.eq]; exact List.mem_append_left _ hx)
      obtain ⟨q, d, rfl, hbyt⟩ := ho.byt hlr
      have HO := hidden ho
      have HB := hidden hb
      have HY := hidden hbyt
      clear ho hb hbyt hlr
      by_cases hlt : j < 8
      · have hix := HIT.out j hlt
        have hv : 0 ≤ T2.list.getD j 0 ∧ T2.list.getD j 0 < 4294967296 := by
          have hm : T2.list.getD j 0 ∈ T2.list := by
            rw [List.getD_eq_getElem?_getD, List.getElem?_eq_getElem (show j < T2.list.length from hlt)]
            exact List.getElem_mem _
          exact HOK.out _ hm
        have HNX := Is.mk (bytes8_drop T2.list j hlt)
        generalize T2.list.getD j 0 = v at hix hv HNX
        have HC : Hid (Calls Tryd.prog 39 #[.slice q L.length d, .int .u64 v, .int .i64 4] wr (BytesPut wr (L ++ be 4 v))) := put_yes q L.length d L wr HY.out (by omega) v (by omega) 4 (by omega) (by omega)
        go_wp2_with (first
          | (go_at_call 39; (with_reducible refine (HC.out).mono ?_); rintro e w' ⟨u, rfl, hown, hbel⟩)
          | fail)
        go_roundw
        case rel =>
          refine ⟨j + 1, L ++ be 4 v, by omega, by go_num, hown.mono HB.out.size, ⟨?_⟩, HB.out.trans (hbel.mono HB.out.size)⟩
          rw [List.append_assoc, ← HNX.eq]
          exact HLR.eq
        case measure => simp [intOf]; omega
      · have hL : L = R := by
          have e : j = 8 := by omega
          have := HLR.eq
          rw [e, List.drop_eq_nil_of_le (show T2.list.length ≤ 8 from Nat.le_refl _), bytes8, List.append_nil] at this
          exact this
        have HLF := Is.mk hL
        clear hL
        go_wp2
        go_ret
        exact ⟨_, rfl, by rw [← HLF.eq]; exact HO.out, HB.out⟩
end Go.Proofs.YtgpigjoonhghhaaDoor
