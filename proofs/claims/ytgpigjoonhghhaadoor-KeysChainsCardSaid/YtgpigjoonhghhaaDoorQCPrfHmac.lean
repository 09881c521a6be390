/-
  prf.Hmac: the keyed hash of any bytes.
-/
import Derived.Test.YtgpigjoonhghhaaDoorQCZ0
import Derived.Test.YtgpigjoonhghhaaDoorQCShaSum
namespace Go.Proofs.YtgpigjoonhghhaaDoor
open Go.RowKit
set_option linter.unusedVariables false
theorem info64b : (Tryd.prog.info? 71).map (·.size) = some 64 := by kernel_rfl
theorem cat2_any (w : World) (p0 p1 : Option Addr) (n0 n1 c0 c1 : Nat) (x0 x1 : List Int) (h0 : Byt w p0 n0 c0 x0) (h1 : Byt w p1 n1 c1 x1) (hs : n0 + n1 ≤ 140737488355328) :
    Calls Tryd.prog 34 #[.slice (some ⟨w.heap.size, 0, none⟩) 2 2] (w.alloc (.cells #[.slice p0 n0 c0, .slice p1 n1 c1] 22)) fun e w' =>
      ∃ v, e = .returned v ∧ Own w' w.heap.size 5 v (x0 ++ x1) ∧ Below w.heap.size w w' := by
  have := concat_any (some ⟨w.heap.size, 0, none⟩) 2 2 _ _ (two_parts w p0 p1 n0 n1 c0 c1 x0 x1 22 h0 h1) (by simp [sizeOf']; omega)
  simp only [bytesOf, List.flatMap_cons, List.flatMap_nil, List.append_nil, World.size_alloc] at this
  refine this.mono ?_
  rintro e w' ⟨v, he, ho, hb⟩
  exact ⟨v, he, ho.mono (by omega), ((Below.refl w.heap.size w).alloc (Nat.le_refl _) _).trans (hb.mono (by omega))⟩
set_option maxHeartbeats 800000 in
set_option maxRecDepth 100000 in
theorem masked_any (g : Nat) (L : List Int) (hL : L.length = 64) (m : Int) (w : World) (h : Wb w g 71 L) :
    Calls Tryd.prog 50 #[.int .u8 m, .pointer (some ⟨g, 0, none⟩)] w fun e w' => ∃ v, e = .returned v ∧ Own w' w.heap.size 5 v (maskL m L) ∧ Below w.heap.size w w' := by
  obtain ⟨i0, hi, hz0, hz1, hz2⟩ := info_parts Tryd.infoByte
  have hi64 : (Tryd.prog.info? 71).map (·.size) = some ((L.map (Value.int .u8)).toArray).size := by
    rw [info64b]
    simp [hL]
  have HI := hidden hi64
  clear hi64
  have HIT : Hid (∀ (j : Nat), j < 64 → ∀ w' : World, (Instr.index 71 (.agg (L.map (Value.int .u8)).toArray) (.int .i64 j)).run Tryd.prog w' = .ok (.int .u8 (L.getD j 0)) w') := fun j hj w' => run_index8 (P := Tryd.prog) Tryd.underlying71 Tryd.underlying5 hi hz1 L hL j hj w'
  have HS : Hid (∀ j, j < 64 → maskL m (L.take (j + 1)) = maskL m (L.take j) ++ [bits .xor .u8 (L.getD j 0) m]) := fun j hj => maskL_take m L j (by omega)
  have HE : Hid (maskL m (L.take 64) = maskL m L) := by show _ = _; rw [List.take_of_length_le (by omega)]
  have HT : Hid (∀ j, j ≤ 64 → (maskL m (L.take j)).length = j) := fun j hj => by rw [maskL_len, List.length_take]; omega
  have H := hidden h
  have HLL := Is.mk hL
  clear h hL
  obtain ⟨cs, hcs⟩ : ∃ cs, (L.map (Value.int .u8)).toArray = cs := ⟨_, rfl⟩
  have HHP : Hid (∀ W, Below w.heap.size w W → W.heap[g]? = some (.cells cs 71 (0, 0))) := fun W hW => by rw [← hcs]; exact (H.out.below hW).heap
  rw [hcs] at HI HIT
  clear hcs
  go_enter Tryd.func50, Tryd.ntmps50
  go_wp2_with (first
    | (at_make; refine wpList_make_byt _ rfl _ _ 22 rfl w.heap.size 5 i0 Tryd.underlying22 hi hz0 hz1 hz2 _ _ _ _ 0 64 rfl rfl ?m1 ?m2 ?m3 ?m4 (Nat.le_refl _) ?_)
    | fail)
  case m1 => rfl
  case m2 => rfl
  case m3 => omega
  case m4 => omega
  intro w1 hown hg
  have HB1 := hidden ((Below.refl w.heap.size w).grown hg (Nat.le_refl _) (by intro k hk; simp at hk))
  have HO1 := hidden hown
  clear hown hg
  have HR1 := hidden (HHP.out w1 HB1.out)
  go_wp2_with (first
    | (refine wpList_load_row rfl 71 _ rfl g rfl 71 _ (0, 0) _ HR1.out Tryd.underlying71 rfl HI.out ?_)
    | fail)
  go_loopw [4, 9] (fun u i wr => ∃ j : Nat, j ≤ 64 ∧ i = .int .i64 j ∧ Own wr w.heap.size 5 u (maskL m (L.take j)) ∧ Below w.heap.size w wr) (fun _ i _ => 64 - (intOf i).toNat)
  case atStart => exact ⟨0, by omega, rfl, HO1.out, HB1.out⟩
  case round =>
    obtain ⟨j, hj, rfl, ho, hb⟩ := hrel
    have HO := hidden ho
    have HB := hidden hb
    clear ho hb HO1 HB1 HR1
    by_cases hlt : j < 64
    · have hix := HIT.out j hlt
      have HST := hidden (HS.out j hlt)
      have HLN := hidden (HT.out j (by omega))
      generalize L.getD j 0 = x at hix HST
      have hxr := xor8_rng x m
      go_wp2_with (at_builtin; refine wpList_append_byt _ rfl _ _ 22 rfl w.heap.size 5 i0 (.int .u8 0) Tryd.underlying22 hi hz0 hz1 hz2 rfl _ _ rfl (HO.out.alloc _) _ _ _ _ _ rfl (one_byte _ _ (bits .xor .u8 x m) ?c0 ?c1) rfl ?c2 ?c3 ?_)
      case c0 => exact hxr
      case c1 => rw [World.cell?_alloc_at _ _ _ _ rfl]; rfl
      case c2 => rw [HLN.out]; omega
      case c3 => have := HB.out.size; simp; omega
      intro u' w2 hown2 hg2
      have HB2 := hidden ((HB.out.alloc HB.out.size _).grown hg2 (by have := HB.out.size; simp; omega) (fun k hk => (HO.out.lt k hk).1))
      rw [← HST.out] at hown2
      have HO2 := hidden hown2
      clear hown2 hg2 HO HB
      go_wp2
      go_roundw
      case rel => exact ⟨j + 1, by omega, by go_num, HO2.out, HB2.out⟩
      case measure => simp [intOf]; omega
    · obtain rfl : j = 64 := by omega
      have hoe := HO.out
      rw [HE.out] at hoe
      have HOE := hidden hoe
      clear hoe HO
      go_wp2
      go_ret
      exact ⟨_, rfl, HOE.out, HB.out⟩
set_option maxHeartbeats 800000 in
set_option maxRecDepth 100000 in
theorem padded_any (p : Option Addr) (n c : Nat) (key : List Int) (w : World) (h : Byt w p n c key) (hb : n ≤ 140737488351232) (hK : KAt w) :
    Calls Tryd.prog 49 #[.slice p n c] w fun e w' => e = .returned (.agg ((padK key).map (Value.int .u8)).toArray) ∧ Below w.heap.size w w' := by
  have hlen := h.len
  obtain ⟨N, hN⟩ : ∃ N, w.heap.size = N := ⟨_, rfl⟩
  have HN := Is.mk hN
  have HX : Hid (∀ W, Below N w W → Byt W p n c key) := fun W hW => h.below (by rw [HN.eq]; exact hW)
  have HK : Hid (∀ W, Below N w W → KAt W) := fun W hW => hK.below hW (by rw [← HN.eq]; exact hK.lt)
  have HS : Hid (∀ W, Below N w W → Calls Tryd.prog 51 #[.slice p n c] W (BytesPut W (shaS key))) := fun W hW => sum_any p n c key W (HX.out W hW) hb (HK.out W hW)
  have HSL : Is (shaS key).length 32 := ⟨shaS_len _⟩
  have HSR : Hid (∀ x ∈ shaS key, 0 ≤ x ∧ x ≤ 255) := shaS_rng _
  have HY1 : Hid (64 < n → keyS key = shaS key) := fun hlt => by unfold keyS; rw [if_pos (by omega)]
  have HY2 : Hid (¬ 64 < n → keyS key = key) := fun hlt => by unfold keyS; rw [if_neg (by omega)]
  have HPK : Hid (∀ k, (keyS key).length = k → keyS key ++ (List.replicate 64 (0 : Int)).drop k = padK key) := fun k hk => by rw [padK, hk, List.drop_replicate]
  have HPL : Is (padK key).length 64 := ⟨padK_len _⟩
  have HB0 := hidden (Below.refl N w)
  clear h hK hlen
  generalize shaS key = S at HS HSL HSR HY1
  generalize keyS key = Y at HY1 HY2 HPK
  generalize padK key = L at HPK HPL ⊢
  go_enter Tryd.func49, Tryd.ntmps49
  go_upto_if 6 with fail
  generalize hw1 : w.alloc (.cells _ 71) = w1
  have hr : Wb w1 w.heap.size 71 (List.replicate 64 0) := by
    rw [← hw1]
    exact Wb.new w _ (List.replicate 64 0) _ rfl
  have hb1 : Below w.heap.size w w1 := by
    rw [← hw1]
    exact (Below.refl _ w).alloc (Nat.le_refl _) _
  clear hw1
  rw [hN] at hr hb1
  have HR := hidden hr
  have HB := hidden hb1
  have hNlt := hr.lt
  clear hr hb1 hN
  go_cut [0] from 4 to 8 (fun a wx => ∃ q k d, a = .slice q k d ∧ k ≤ 64 ∧ Byt wx q k d Y ∧ Wb wx N 71 (List.replicate 64 0) ∧ Below N w wx)
  case first =>
    by_cases hlt : 64 < n
    · have h1 : (64 : Int) < n := by omega
      have HYE := Is.mk (HY1.out hlt)
      have HC := hidden (HS.out w1 HB.out)
      clear HY1 HY2 HPK
      go_wp2_with (first
        | (go_at_call 51; go_loud (with_reducible refine (HC.out).mono ?_); rintro e w2 ⟨v, rfl, hown, hbel⟩; obtain ⟨q, d, rfl, hbyt⟩ := hown.bytN rfl HSL.eq HSR.out; have HB2 := hidden (HB.out.trans (hbel.mono (Nat.le_of_lt hNlt))); have HR2 := hidden (HR.out.below hbel); have H2 := hidden hbyt; clear hown hbel hbyt)
        | fail)
      go_meet
      case rel => exact ⟨q, 32, d, rfl, by omega, by rw [HYE.eq]; exact H2.out, HR2.out, HB2.out⟩
    · have h1 : ¬ (64 : Int) < n := by omega
      have HYE := Is.mk (HY2.out hlt)
      have HC := hidden (HX.out w1 HB.out)
      clear HY1 HY2 HPK
      go_wp2
      go_meet
      case rel => exact ⟨p, n, c, rfl, by omega, by rw [HYE.eq]; exact HC.out, HR.out, HB.out⟩
  case rest =>
    obtain ⟨q, k, d, rfl, hk, hy, hr, hb2⟩ := hcut
    have HPE := hidden (HPK.out k hy.len)
    have hNc := hr.lt
    go_upto_region 4 with fail
    generalize hw2 : wc.alloc (.cells _ 71) = w2
    have ho2 : Wb w2 wc.heap.size 71 (List.replicate 64 0) := by
      rw [← hw2]
      exact Wb.new wc _ (List.replicate 64 0) _ rfl
    have hy2 : Byt w2 q k d Y := by rw [← hw2]; exact hy.alloc _
    have hr2 : Wb w2 N 71 (List.replicate 64 0) := by rw [← hw2]; exact hr.alloc _
    have hbb : Below N w w2 := by
      rw [← hw2]
      exact hb2.alloc (Nat.le_of_lt hNc) _
    clear hw2 hy hr hb2 HR HB HX HS HK
    have HO := hidden ho2
    have HY := hidden hy2
    have HR := hidden hr2
    have HB := hidden hbb
    clear ho2 hy2 hr2 hbb HY1 HY2 HPK
    go_wp2_with (first
      | (refine wpList_copy_row rfl (.tmp 9) (.tmp 10) 22 22 rfl 5 Tryd.underlying22 Tryd.sizeByte wc.heap.size 64 64 rfl (List.replicate 64 0) 71 HO.out.heap (by simp) _ _ _ _ rfl HY.out hk L HPE.out ?_)
      | fail)
    intro w3 HW HG3
    have HR3 : Hid (Wb w3 N 71 (List.replicate 64 0)) := ⟨(HG3.out.block N HR.out.lt (by simp; omega)).trans HR.out.heap⟩
    have HB3 := hidden (HB.out.grown HG3.out (by rw [← HN.eq]; exact HB.out.size) (fun j e => by cases e; exact Nat.le_of_lt hNc))
    have hi64 : (Tryd.prog.info? 71).map (·.size) = some ((L.map (Value.int .u8)).toArray).size := by
      rw [info64b]
      simp [HPL.eq]
    have HI := hidden hi64
    have hz64 : ((List.replicate 64 (0 : Int)).map (Value.int .u8)).toArray.size = ((L.map (Value.int .u8)).toArray).size := by
      simp [HPL.eq]
    have HZ := hidden hz64
    clear hi64 hz64
    have HONE := hidden (one8 L)
    have HR4 := hidden (HR3.out.row L)
    have HB4 := hidden (below_setRow HB3.out (Nat.le_refl _) (L.map (Value.int .u8)).toArray)
    clear HG3
    go_wp2_with (first
      | (refine wpList_load_row rfl 71 _ rfl wc.heap.size rfl 71 _ (0, 0) _ HW.out.heap Tryd.underlying71 rfl HI.out ?_)
      | (refine wpList_store_row rfl 71 _ _ rfl N (L.map (Value.int .u8)).toArray rfl rfl 71 _ HR3.out.heap HI.out HZ.out HONE.out ?_)
      | fail)
    refine bodyPost_ret (results_cell_row rfl _ _ N 71 _ _ _ rfl HR4.out.heap Tryd.underlying71 rfl HI.out) rfl ?_
    exact ⟨rfl, by rw [HN.eq]; exact HB4.out⟩
set_option maxHeartbeats 800000 in
set_option maxRecDepth 100000 in
theorem hmac_any (p q : Option Addr) (n c m d : Nat) (key b : List Int) (w : World) (h : Byt w p n c key) (hn : n ≤ 140737488351232) (k : Byt w q m d b) (hm : m ≤ 140737488351000) (hK : KAt w) :
    Calls Tryd.prog 30 #[.slice p n c, .slice q m d] w fun e w' => ∃ v, e = .returned v ∧ Own w' w.heap.size 5 v (hmacS key b) ∧ Below w.heap.size w w' := by
  have hl := padK_len key
  have HP := hidden (padded_any p n c key w h hn hK)
  obtain ⟨R, hR⟩ : ∃ R, hmacS key b = R := ⟨_, rfl⟩
  rw [hR]
  unfold hmacS maskS at hR
  generalize padK key = L at HP hl hR
  have hml : ∀ x, (maskL x L).length = 64 := fun x => by rw [maskL_len, hl]
  have HA := hidden (hml 54)
  have HC := hidden (hml 92)
  have HAR := hidden (maskL_rng 54 L)
  have HCR := hidden (maskL_rng 92 L)
  have HM54 := hidden (fun g W (hw : Wb W g 71 L) => masked_any g L hl 54 W hw)
  have HM92 := hidden (fun g W (hw : Wb W g 71 L) => masked_any g L hl 92 W hw)
  generalize maskL 54 L = A at HA HAR HM54 hR
  generalize maskL 92 L = C at HC HCR HM92 hR
  have HIB : Hid (∀ W p0 c0, Byt W p0 64 c0 A → Byt W q m d b → Calls Tryd.prog 34 #[.slice (some ⟨W.heap.size, 0, none⟩) 2 2] (W.alloc (.cells #[.slice p0 64 c0, .slice q m d] 22)) fun e w' =>
      ∃ v, e = .returned v ∧ Own w' W.heap.size 5 v (A ++ b) ∧ Below W.heap.size W w') := fun W p0 c0 h0 h1 => cat2_any W p0 q 64 m c0 d A b h0 h1 (by omega)
  have hAl : (A ++ b).length = 64 + m := by rw [List.length_append, HA.out, k.len]
  have hAr : ∀ x ∈ A ++ b, 0 ≤ x ∧ x ≤ 255 := rng_append HAR.out k.rng
  have HK : Hid (∀ W, Below w.heap.size w W → KAt W) := fun W hW => hK.below hW hK.lt
  have HY : Hid (∀ W, Below w.heap.size w W → Byt W q m d b) := fun W hW => k.below hW
  have HS1 : Hid (∀ W q1 d1, Below w.heap.size w W → Byt W q1 (64 + m) d1 (A ++ b) → Calls Tryd.prog 51 #[.slice q1 (64 + m) d1] W (BytesPut W (shaS (A ++ b)))) := fun W q1 d1 hW hB => sum_any q1 (64 + m) d1 _ W hB (by omega) (HK.out W hW)
  generalize A ++ b = X at hAl hAr HS1 HIB hR
  have HXL := Is.mk hAl
  have HXR := hidden hAr
  have HDL : Is (shaS X).length 32 := ⟨shaS_len X⟩
  have HDR : Hid (∀ x ∈ shaS X, 0 ≤ x ∧ x ≤ 255) := shaS_rng X
  generalize shaS X = D at HS1 HDL HDR hR
  have HOB : Hid (∀ W p0 c0 p1 c1, Byt W p0 64 c0 C → Byt W p1 32 c1 D → Calls Tryd.prog 34 #[.slice (some ⟨W.heap.size, 0, none⟩) 2 2] (W.alloc (.cells #[.slice p0 64 c0, .slice p1 32 c1] 22)) fun e w' =>
      ∃ v, e = .returned v ∧ Own w' W.heap.size 5 v (C ++ D) ∧ Below W.heap.size W w') := fun W p0 c0 p1 c1 h0 h1 => cat2_any W p0 p1 64 32 c0 c1 C D h0 h1 (by omega)
  have HEL : Is (C ++ D).length 96 := ⟨by rw [List.length_append, HC.out, HDL.eq]⟩
  have HER : Hid (∀ x ∈ C ++ D, 0 ≤ x ∧ x ≤ 255) := rng_append HCR.out HDR.out
  have HS2 : Hid (∀ W q1 d1, Below w.heap.size w W → Byt W q1 96 d1 (C ++ D) → Calls Tryd.prog 51 #[.slice q1 96 d1] W (BytesPut W R)) := fun W q1 d1 hW hB => by
    have := sum_any q1 96 d1 _ W hB (by omega) (HK.out W hW)
    rw [hR] at this
    exact this
  generalize C ++ D = E at HOB HEL HER HS2 hR
  have hi64 : (Tryd.prog.info? 71).map (·.size) = some ((L.map (Value.int .u8)).toArray).size := by
    rw [info64b]
    simp [hl]
  have hsz : 64 = ((L.map (Value.int .u8)).toArray).size := by simp [hl]
  have HSZ := hidden hsz
  have HI := hidden hi64
  clear hi64 hsz
  have HLL := Is.mk hl
  have HONE := hidden (one8 L)
  clear h k hK hR hml hAl hAr hl
  go_enter Tryd.func30, Tryd.ntmps30
  go_upto_region 2 with (first
    | (go_at_call 49; (with_reducible refine (HP.out).mono ?_); rintro e w1 ⟨rfl, hb1⟩; have HB1 := hidden hb1; clear hb1)
    | (refine wpList_store_row rfl 71 _ _ rfl w1.heap.size (L.map (Value.int .u8)).toArray rfl rfl 71 _ (heap_alloc_new w1 _) HI.out HSZ.out HONE.out ?_)
    | fail)
  obtain ⟨g, hg⟩ : ∃ g, w1.heap.size = g := ⟨_, rfl⟩
  generalize hw2 : (w1.alloc _).setRow _ _ = w2
  have hw : Wb w2 w1.heap.size 71 L := by
    rw [← hw2]
    exact ⟨setRow_heap _ _ _ _ _ _ (heap_alloc_new w1 _)⟩
  have hb2 : Below w.heap.size w w2 := by
    rw [← hw2]
    exact below_setRow (HB1.out.alloc HB1.out.size _) HB1.out.size _
  clear hw2
  rw [hg] at hw ⊢
  clear hg
  have HW := hidden hw
  have HB2 := hidden hb2
  clear hw hb2 HB1 HP HI HSZ HONE HLL
  go_wp2_with (first
    | (go_at_call 50; (with_reducible refine (HM54.out g w2 HW.out).mono ?_); rintro e w3 ⟨v3, rfl, hown3, hbel3⟩; obtain ⟨q3, d3, rfl, hbyt3⟩ := hown3.bytN rfl HA.out HAR.out; have HB3 := hidden (HB2.out.trans (hbel3.mono HB2.out.size)); have H3 := hidden hbyt3; have HW3 := hidden (HW.out.below hbel3); clear hown3 hbel3 hbyt3)
    | (go_at_call 34; (with_reducible refine (HIB.out w3 _ _ H3.out (HY.out _ HB3.out)).mono ?_); rintro e w4 ⟨v4, rfl, hown4, hbel4⟩; obtain ⟨q4, d4, rfl, hbyt4⟩ := hown4.bytN rfl HXL.eq HXR.out; have HB4 := hidden (HB3.out.trans (hbel4.mono HB3.out.size)); have H4 := hidden hbyt4; have HW4 := hidden (HW3.out.below hbel4); clear hown4 hbel4 hbyt4)
    | (go_at_call 51; (with_reducible refine (HS1.out w4 _ _ HB4.out H4.out).mono ?_); rintro e w5 ⟨v5, rfl, hown5, hbel5⟩; obtain ⟨q5, d5, rfl, hbyt5⟩ := hown5.bytN rfl HDL.eq HDR.out; have HB5 := hidden (HB4.out.trans (hbel5.mono HB4.out.size)); have H5 := hidden hbyt5; have HW5 := hidden (HW4.out.below hbel5); clear hown5 hbel5 hbyt5)
    | (go_at_call 50; (with_reducible refine (HM92.out g w5 HW5.out).mono ?_); rintro e w6 ⟨v6, rfl, hown6, hbel6⟩; obtain ⟨q6, d6, rfl, hbyt6⟩ := hown6.bytN rfl HC.out HCR.out; have HB6 := hidden (HB5.out.trans (hbel6.mono HB5.out.size)); have H6 := hidden hbyt6; have H56 := hidden (H5.out.below hbel6); clear hown6 hbel6 hbyt6)
    | (go_at_call 34; (with_reducible refine (HOB.out w6 _ _ _ _ H6.out H56.out).mono ?_); rintro e w7 ⟨v7, rfl, hown7, hbel7⟩; obtain ⟨q7, d7, rfl, hbyt7⟩ := hown7.bytN rfl HEL.eq HER.out; have HB7 := hidden (HB6.out.trans (hbel7.mono HB6.out.size)); have H7 := hidden hbyt7; clear hown7 hbel7 hbyt7)
    | (go_at_call 51; (with_reducible refine (HS2.out w7 _ _ HB7.out H7.out).mono ?_); rintro e w8 ⟨v8, rfl, hown8, hbel8⟩; have HB8 := hidden (HB7.out.trans (hbel8.mono HB7.out.size)); have HO8 := hidden (hown8.mono HB7.out.size); clear hown8 hbel8)
    | fail)
  go_ret
  exact ⟨_, rfl, HO8.out, HB8.out⟩
end Go.Proofs.YtgpigjoonhghhaaDoor
