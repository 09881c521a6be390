/-
  The law Poly1305One, walked: it returns true for every input, and only adds memory of its own.
-/
import Derived.Test.YtnbpangegegccaaPoly11
import Derived.Test.YtnbpangegegccaaPolyOne
import Derived.Test.YtnbpangegegccaaMkBytes
import Derived.Test.YtnbpangegegccaaCodes2
import Derived.Deep.Cut
import Derived.Deep.CutRange
namespace Go.Proofs.Ytnbpangegegccaa
open Go.RowKit
set_option linter.unusedVariables false

theorem rng_zeros16b : ∀ x ∈ List.replicate 16 (0 : Int), 0 ≤ x ∧ x ≤ 255 := by decide
theorem below_of_noneB {w w' : World} (h : w.grownBy w' none) : Below w.heap.size w w' := ⟨h.os, h.tape, h.output, h.size, fun k hk => h.block k hk (by simp)⟩
theorem info18 : (Try.prog.info? 33).map (·.size) = some 18 := by kernel_rfl
theorem shr8 (x : Int) (h0 : 0 ≤ x) (h1 : x < 1000000) : bits .and .i64 x 255 = x % 256 := bits_mask .i64 63 (by decide) (fun n h0 h1 => wraps_i64 _ (by omega) (by omega)) 8 (by decide) x h0 (by omega)

/-- Eighteen columns in a block. -/
structure OnI (w6 wr : World) (g : Nat) (S : List Int) (B : Int) : Prop where
  row : Wn .i64 wr g 33 S
  bel : Below w6.heap.size w6 wr
  len : S.length = 18
  rng : ∀ i, 0 ≤ S.getD i 0 ∧ S.getD i 0 ≤ B
theorem OnI.set {w6 wr : World} {g : Nat} {S : List Int} {B B' : Int} (h : OnI w6 wr g S B) (i : Nat) (v : Int) (hi : i < 18) (hv : 0 ≤ v ∧ v ≤ B') (hB : B ≤ B') (hg : w6.heap.size ≤ g) : OnI w6 (wr.setCell ⟨g, i, none⟩ (.int .i64 v)) g (S.set i v) B' := by
  refine ⟨h.row.set _ _, h.bel.setCell hg _, by rw [List.length_set, h.len], fun j => ?_⟩
  by_cases hj : j < 18
  · rw [getD_setP _ _ _ _ (by rw [h.len]; exact hj)]
    split
    · exact hv
    · have := h.rng j; omega
  · rw [List.getD_eq_getElem?_getD, List.getElem?_eq_none (by rw [List.length_set, h.len]; omega)]
    simp; omega
theorem OnI.drew {w6 wr : World} {g : Nat} {S : List Int} {B : Int} (h : OnI w6 wr g S B) : OnI w6 wr.drew g S B := ⟨h.row.drew, h.bel.drew, h.len, h.rng⟩
theorem OnI.mono {w6 wr : World} {g : Nat} {S : List Int} {B B' : Int} (h : OnI w6 wr g S B) (hB : B ≤ B') : OnI w6 wr g S B' := ⟨h.row, h.bel, h.len, fun i => by have := h.rng i; omega⟩
theorem OnI.zero (w6 wr : World) (g : Nat) (B : Int) (hB : 0 ≤ B) (h : Wn .i64 wr g 33 (List.replicate 18 0)) (hb : Below w6.heap.size w6 wr) : OnI w6 wr g (List.replicate 18 0) B := by
  refine ⟨h, hb, by simp, fun i => ?_⟩
  rw [List.getD_eq_getElem?_getD, List.getElem?_replicate]
  split <;> simp <;> omega

/-- The carry in place, in its round j. -/
structure CaI (w7 wr : World) (g : Nat) (M : List Int) (V C : Int) (j : Nat) : Prop where
  on : OnI w7 wr g M (C + 100)
  val : num 256 M = V
  lo : ∀ i, i < j → M.getD i 0 ≤ 255
  hi : ∀ i, j < i → M.getD i 0 ≤ C
theorem CaI.step {w7 wr : World} {g : Nat} {M : List Int} {V C : Int} {j : Nat} (h : CaI w7 wr g M V C j) (hj : j < 17) (x y : Int) (hx : M.getD j 0 = x) (hy : M.getD (j + 1) 0 = y) (hg : w7.heap.size ≤ g) (hC : 255 ≤ C ∧ C ≤ 25000) :
    CaI w7 (((wr.setCell ⟨g, j + 1, none⟩ (.int .i64 (y + x / 256))).drew).setCell ⟨g, j, none⟩ (.int .i64 (x % 256))) g ((M.set (j + 1) (y + x / 256)).set j (x % 256)) V C (j + 1) := by
  have hr := h.on.rng j
  have hr1 := h.on.rng (j + 1)
  have h1 := h.hi (j + 1) (by omega)
  obtain ⟨e1, e2⟩ := inplace M j h.on.len hj x y hx hy
  have hl := h.on.len
  refine ⟨((h.on.set (B' := C + 100) (j + 1) _ (by omega) (by omega) (Int.le_refl _) hg).drew).set j _ (by omega) (by omega) (Int.le_refl _) hg, by rw [e1, h.val], fun i hi => ?_, fun i hi => ?_⟩
  · rw [getD_setP _ _ _ _ (by simp; omega)]
    split
    · omega
    · rw [getD_setP _ _ _ _ (by omega), if_neg (by omega)]
      exact h.lo i (by omega)
  · by_cases hi18 : i < 18
    · rw [getD_setP _ _ _ _ (by simp; omega), if_neg (by omega), getD_setP _ _ _ _ (by omega), if_neg (by omega)]
      exact h.hi i (by omega)
    · rw [List.getD_eq_getElem?_getD, List.getElem?_eq_none (by simp; omega)]
      simp; omega

set_option maxHeartbeats 3200000 in
set_option maxRecDepth 100000 in
theorem poly1305One_walk (p0 : Option Addr) (n0 c0 : Nat) (xs0 : List Int) (p1 : Option Addr) (n1 c1 : Nat) (xs1 : List Int) (w : World) (h0 : Byt w p0 n0 c0 xs0) (r0 : c0 ≤ 140737488351232) (h1 : Byt w p1 n1 c1 xs1) (r1 : c1 ≤ 140737488351232) :
    Calls Try.prog 5 #[.slice p0 n0 c0, .slice p1 n1 c1] w fun e w' => e = .returned (.bool true) ∧ Below w.heap.size w w' := by
  have HA := hidden (awake11_any w)
  have H0 := hidden h0
  have H1 := hidden h1
  have hc1 := h1.cap
  have hbig := h1.big
  obtain ⟨i0, hi, hz0, hz1, hz2⟩ := info_parts Try.infoByte
  clear h0 h1
  go_enter Try.func5, Try.ntmps5
  go_upto_if 22 with (first
    | (go_at_call 7; (with_reducible refine (HA.out).mono ?_); rintro e w1 ⟨rfl, hb⟩; have HB1 := hidden hb; clear hb)
    | fail)
  go_cut [1] from 20 to 24 (fun a wx => ∃ q k d b, a = .slice q k d ∧ k ≤ 48 ∧ Hid (Byt w q k d b) ∧ w1 = wx)
  case first =>
    by_cases hlt : n1 ≤ 48
    · have hle : ¬ (48 : Int) < (n1 : Int) := by omega
      go_wp2
      go_meet
      case rel => exact ⟨p1, n1, c1, xs1, rfl, hlt, H1, rfl⟩
    · have hle : (48 : Int) < (n1 : Int) := by omega
      have hl2 : (48 : Int) ≤ (c1 : Int) := by omega
      have HF := hidden (H1.out.front 48 (by omega))
      go_wp2
      go_meet
      case rel => exact ⟨p1, 48, c1, _, rfl, by omega, HF, rfl⟩
  case rest =>
    obtain ⟨pb, nb, cb, b, rfl, hnb, HBB, rfl⟩ := hcut
    have HB0 := hidden (fun W (hW : Below w.heap.size w W) => HBB.out.below hW)
    clear HBB H1
    go_wp2_with (first
      | (go_at_call 8; (refine (new_any w p0 n0 c0 xs0 w1 H0.out HB1.out 40 (by omega)).mono ?_); rintro e w2 ⟨rfl, hc, hb⟩; have HC2 := hidden hc; have HB2 := hidden (HB1.out.trans (hb.mono HB1.out.size)); clear hc hb)
      | (go_at_call 9; (refine (mbytes_any w w2 _ HC2.out 16 (by omega)).mono ?_); rintro e w3 ⟨q, d, ys, rfl, hbod, hc, hg⟩; have HY3 := hidden hbod.byt; have HB3 := hidden (HB2.out.grown hg HB2.out.size (fun k e => by cases e; exact HC2.out.base)); clear hc hg hbod)
      | (at_make; refine wpList_make_byt _ rfl _ _ 22 rfl w3.heap.size 5 i0 Try.underlying22 hi hz0 hz1 hz2 _ _ _ _ 16 16 rfl rfl ?m1 ?m2 ?m3 ?m4 ?m5 ?_)
      | fail)
    case m1 => rfl
    case m2 => rfl
    case m3 => omega
    case m4 => omega
    case m5 => simp
    intro w4 hown hg
    have HB34 := hidden (below_of_noneB hg)
    have HY4 := hidden (HY3.out.below HB34.out)
    have HO4 := hidden (show Own w4 w3.heap.size 5 _ (List.replicate 16 0) from hown)
    clear hown hg HC2
    go_wp2_with (first
      | (at_builtin; refine wpList_append_byt _ rfl _ _ 22 rfl w3.heap.size 5 i0 (.int .u8 0) Try.underlying22 hi hz0 hz1 hz2 rfl _ _ rfl HO4.out _ _ _ _ _ rfl HY4.out rfl ?c2 ?c3 ?_)
      | fail)
    case c2 => simp
    case c3 => exact HB34.out.size
    intro u w5 hown hg
    have HB35 := hidden (HB34.out.grown hg HB34.out.size (fun k hk => (HO4.out.lt k hk).1))
    have hyl := HY4.out.len
    have hyr := HY4.out.rng
    have HY5 := hidden (HY3.out.below HB35.out)
    obtain ⟨g, c5, rfl, hg0, hg1, hgc, hgf⟩ := hown.at_ (n := 32) (by simp [hyl]) (by omega)
    have HKEY := hidden ((show Own w5 w3.heap.size 5 (.slice (some ⟨g, 0, none⟩) 32 c5) (List.replicate 16 0 ++ ys) from hown).set (by simp [hyl]) 0 1)
    have HKB := hidden (HB35.out.setCell (p := ⟨g, 0, none⟩) hg0 (.int .u8 1))
    have hk0 := hgc 0 (by omega)
    have hf0 := hgf 0
    have HYL := Is.mk hyl
    have HYR := hidden hyr
    clear hown hg hgc hgf HO4 HY4 HB34 hyl hyr
    go_upto_region 8 with fail
    have hk1 : rS ((List.replicate 16 0 ++ ys).set 0 1) = 1 := rS_one ys
    have hk2 : ((List.replicate 16 (0 : Int) ++ ys).set 0 1).drop 16 = ys := by
      rw [List.drop_set_of_lt (by omega), List.drop_append]
      simp
    have hk3 : ((List.replicate 16 (0 : Int) ++ ys).set 0 1).length = 32 := by simp [HYL.eq]
    have hk4 : ∀ x ∈ (List.replicate 16 (0 : Int) ++ ys).set 0 1, 0 ≤ x ∧ x ≤ 255 := fun x hx => by
      rcases List.mem_or_eq_of_mem_set hx with hx | rfl
      · exact rng_append rng_zeros16b HYR.out x hx
      · omega
    generalize (List.replicate 16 (0 : Int) ++ ys).set 0 1 = K at *
    generalize hw6 : w5.setCell ⟨g, 0, none⟩ (.int .u8 1) = w6 at *
    obtain ⟨pz, cz, ez, hkb⟩ := HKEY.out.bytN (N := 32) rfl hk3 hk4
    cases ez
    have hb6 := HB3.out.trans (HKB.out.mono HB3.out.size)
    have hbw := HB0.out w6 hb6
    have hbl := hbw.len
    have HPK := hidden (psum_yes _ pb _ nb cb K b w6 hkb hbw (by omega))
    have HT1 := hidden (fun (M : List Int) (hM : M.length = 18) (x c : Int) hx hc => (tag_one K b M hk1 hM x c hx hc).2)
    rw [hk2] at HT1
    have hLT := tagS_len K b
    have hRT := tagS_rng K b
    have HBW := hidden hbw
    have HB6 := hidden hb6
    have HY6 := hidden (HY3.out.below HKB.out)
    have hbr := hbw.rng
    have HSR := hidden (sumM_rng b hbr)
    have HBL := Is.mk hbl
    generalize tagS K b = T at *
    have HLT := Is.mk hLT
    have HRT := hidden hRT
    clear hk1 hk2 hk3 hk4 hkb hbw hbl hb6 hLT hRT hbr HKEY HKB hw6 HB35 HY5 HY3 hk0 hf0
    go_upto_region 12 with (first
      | (go_at_call 10; (with_reducible refine (HPK.out).mono ?_); rintro e w7 ⟨v7, rfl, ho, hb⟩; have HB7 := hidden hb; obtain ⟨q7, d7, rfl, hbyt⟩ := ho.bytN (N := 16) rfl HLT.eq HRT.out; have HT7 := hidden hbyt; clear ho hb hbyt)
      | fail)
    generalize hw8 : w7.alloc (.cells _ 33) = w8
    obtain ⟨gs, hgs⟩ : ∃ gs, w7.heap.size = gs := ⟨_, rfl⟩
    have HI0 : Hid (OnI w7 w8 gs (List.replicate 18 0) 0) := by
      rw [← hw8]
      exact hidden (OnI.zero _ _ _ _ (by omega) (Wn.new' .i64 w7 33 (List.replicate 18 0) _ rfl gs hgs) ((Below.refl _ w7).alloc (Nat.le_refl _) _))
    have HN0 : Is (num 256 (List.replicate 18 0)) (sumM b 0) := ⟨rfl⟩
    have HB7w := hidden (HBW.out.below HB7.out)
    have HY7 := hidden (HY6.out.below HB7.out)
    have HW7 := hidden (HB6.out.trans (HB7.out.mono HB6.out.size))
    simp only [hgs]
    have hgs7 : w7.heap.size ≤ gs := by omega
    have HGS := hidden hgs
    clear hw8 hgs HPK HBW HY6 HB6 HB7
    go_wp2
    go_loopw [10] (fun i wr => ∃ (k : Nat) (S : List Int), 16 * k < nb + 16 ∧ i = .int .i64 ((16 * k : Nat) : Int) ∧ OnI w7 wr gs S ((17 * k : Nat) * 256) ∧ Is (num 256 S) (sumM b k)) (fun i _ => (nb + 16) - (intOf i).toNat)
    case atStart => exact ⟨0, List.replicate 18 0, by omega, rfl, HI0.out, HN0⟩
    case round =>
      obtain ⟨k, S, hk, rfl, hi, HNS⟩ := hrel
      have HI := hidden hi
      clear hi HI0 HN0
      by_cases hlt : 16 * k < nb
      · obtain ⟨m, hm⟩ : ∃ m, (if nb < 16 * k + 16 then nb - 16 * k else 16) = m := ⟨_, rfl⟩
        have hm16 : m ≤ 16 := by split at hm <;> omega
        have hmle : 16 * k + m ≤ nb := by split at hm <;> omega
        have hml : ((b.drop (16 * k)).take 16).length = m := by
          rw [List.length_take, List.length_drop, HBL.eq]
          split at hm <;> omega
        have hm0 : 0 < m := by split at hm <;> omega
        have HSM := Is.mk (show sumM b (k + 1) = sumM b k + (num 256 ((b.drop (16 * k)).take 16) + 256 ^ m) by rw [sumM, markS, hml])
        have HPG := hidden (fun i (hi : i < m) => (show ((b.drop (16 * k)).take 16).getD i 0 = b.getD (16 * k + i) 0 by rw [List.getD_eq_getElem?_getD, List.getElem?_take, if_pos (by omega), List.getElem?_drop, ← List.getD_eq_getElem?_getD]))
        have HPT := hidden (fun i (hi : i < m) => num_take 256 ((b.drop (16 * k)).take 16) i (by rw [hml]; exact hi))
        have HPE : Is (((b.drop (16 * k)).take 16).take m) ((b.drop (16 * k)).take 16) := ⟨List.take_of_length_le (by omega)⟩
        generalize (b.drop (16 * k)).take 16 = P at *
        have hlt' : ((16 * k : Nat) : Int) < (nb : Int) := by omega
        have hmin : (if (nb : Int) - ((16 * k : Nat) : Int) < 16 then (nb : Int) - ((16 * k : Nat) : Int) else 16) = (m : Int) := by
          split at hm <;> split <;> omega
        obtain ⟨at_, hat⟩ : ∃ at_, 16 * k = at_ := ⟨_, rfl⟩
        have HAT := Is.mk hat
        simp only [hat] at hlt' hmin HPG ⊢
        clear hm hml
        have HS0 : Is (num 256 S) (sumM b k + num 256 (P.take 0)) := ⟨by rw [HNS.eq]; simp [num]⟩
        have HI1 := hidden (HI.out.mono (B' := ((17 * k + 0 : Nat) : Int) * 256) (by omega))
        have HAM : Hid (16 * k = at_ ∧ at_ + m ≤ nb) := ⟨hat, by omega⟩
        clear hat HI hmle
        go_wp2
        rename World => wo
        go_loopw [12] (fun i wr => ∃ (j : Nat) (S : List Int), j ≤ m ∧ i = .int .i64 j ∧ OnI w7 wr gs S ((17 * k + j : Nat) * 256) ∧ Is (num 256 S) (sumM b k + num 256 (P.take j))) (fun i _ => m - (intOf i).toNat)
        case atStart => exact ⟨0, S, by omega, rfl, HI1.out, HS0⟩
        case round =>
          clear HI1 HS0 HNS
          obtain ⟨j, S, hj, rfl, hi, HNS⟩ := hrel
          have HI := hidden hi
          clear hi
          by_cases hjm : j < m
          · obtain ⟨bb, ob, rfl, hc⟩ := HB7w.out.at_ (by have := HAM.out; omega)
            have hx := cell_below HI.out.bel _ _ (hc (at_ + j) (by have := HAM.out; omega))
            have hxr := rng_getD HB7w.out.rng (at_ + j)
            have hs := HI.out.row.cell j (by rw [HI.out.len]; omega)
            have hf := HI.out.row.fr j
            have hsr := HI.out.rng j
            have hcap := HB7w.out.cap
            have HST := Is.mk (num_set 256 S j (by rw [HI.out.len]; omega) (b.getD (at_ + j) 0))
            have hpt := HPT.out j hjm
            rw [HPG.out j hjm] at hpt
            have HPTJ := Is.mk hpt
            generalize b.getD (at_ + j) 0 = x at *
            have HIS := hidden (HI.out.set (B' := ((17 * k + (j + 1) : Nat) : Int) * 256) j (S.getD j 0 + x) (by omega) (by omega) (by omega) hgs7)
            generalize S.getD j 0 = s at *
            have w0 : IntKind.i64.wrap (s + x) = s + x := wraps_i64 _ (by omega) (by omega)
            have b0 : (j : Int) < (m : Int) := by omega
            have b1 : (0 : Int) ≤ (j : Int) := by omega
            have b2 : (j : Int) < 18 := by omega
            have b3 : (0 : Int) ≤ (at_ : Int) + (j : Int) := by omega
            have b4 : (at_ : Int) + (j : Int) < (nb : Int) := by have := HAM.out; omega
            have b5 : ((at_ : Int) + (j : Int)).toNat = at_ + j := by omega
            have hbs : ¬ bb = gs := fun e => by
              have := World.block_lt_of_cell? w7 _ (hc 0 (by omega))
              simp only at this
              omega
            clear hc hpt hsr
            go_upto_region 19 with fail
            go_region
            have HIS2 := hidden (HIS.out.drew)
            generalize World.drew _ = w9 at *
            go_wp2
            go_roundw
            case rel => exact ⟨j + 1, _, by omega, by go_num, HIS2.out, ⟨by rw [HST.eq, HNS.eq, HPTJ.eq]; omega⟩⟩
            case measure => simp [intOf]; omega
          · have hjm' : j = m := by omega
            have hge : ¬ (j : Int) < (m : Int) := by omega
            have hns := HNS.eq
            rw [hjm', HPE.eq] at hns
            have HNE := Is.mk hns
            have hs := HI.out.row.cell m (by rw [HI.out.len]; omega)
            have hf := HI.out.row.fr m
            have hsr := HI.out.rng m
            have HST := Is.mk (num_set 256 S m (by rw [HI.out.len]; omega) 1)
            have HIS := hidden (HI.out.set (B' := ((17 * (k + 1) : Nat) : Int) * 256) m (S.getD m 0 + 1) (by omega) (by omega) (by omega) hgs7)
            generalize S.getD m 0 = s at *
            have w0 : IntKind.i64.wrap (s + 1) = s + 1 := wraps_i64 _ (by omega) (by omega)
            have b1 : (0 : Int) ≤ (m : Int) := by omega
            have b2 : (m : Int) < 18 := by omega
            have b3 : (at_ : Int) + 16 = ((16 * (k + 1) : Nat) : Int) := by have := HAT.eq; omega
            have b4 : at_ ≤ 1000 := by have := HAM.out; omega
            have HLT2 := hidden (show 16 * (k + 1) < nb + 16 by have := HAM.out; omega)
            have HMS := hidden (show at_ < nb by have := HAM.out; omega)
            clear hjm' hns hsr
            go_wp2
            go_roundw
            case rel => exact ⟨k + 1, _, HLT2.out, by go_num, HIS.out, ⟨by rw [HST.eq, HNE.eq, HSM.eq]; omega⟩⟩
            case measure => have := HMS.out; simp [intOf]; omega
      · have hge : ¬ ((16 * k : Nat) : Int) < (nb : Int) := by omega
        have hkp : k = piecesN nb := by unfold piecesN; omega
        obtain ⟨V, hV⟩ : ∃ V, sumM b k = V := ⟨_, rfl⟩
        have HC0 : Hid (CaI w7 wr gs S V 13100 0) := hidden ⟨HI.out.mono (by omega), by rw [HNS.eq, hV], fun i hi => by omega, fun i hi => by have := HI.out.rng i; omega⟩
        have HVE : Is V (sumM b (piecesN b.length)) := ⟨by rw [← hV, hkp, HBL.eq]⟩
        have HVR : Hid (0 ≤ V ∧ V < 2041694201525630780780247644590609268737) := by
          have h1 := HSR.out k
          rw [hV] at h1
          refine hidden ⟨h1.1, ?_⟩
          have h3 : (k : Int) ≤ 3 := by omega
          omega
        clear hkp hV HI HNS
        go_wp2
        rename World => wo
        go_loopw [13] (fun i wr => ∃ (j : Nat) (M : List Int), j ≤ 17 ∧ i = .int .i64 j ∧ CaI w7 wr gs M V 13100 j) (fun i _ => 17 - (intOf i).toNat)
        case atStart => exact ⟨0, S, by omega, rfl, HC0.out⟩
        case round =>
          clear HC0
          obtain ⟨j, M, hj, rfl, hi⟩ := hrel
          have HC := hidden hi
          clear hi
          by_cases hj17 : j < 17
          · have hx := HC.out.on.row.cell j (by rw [HC.out.on.len]; omega)
            have hy := HC.out.on.row.cell (j + 1) (by rw [HC.out.on.len]; omega)
            have hf := HC.out.on.row.fr j
            have hf1 := HC.out.on.row.fr (j + 1)
            have hxr := HC.out.on.rng j
            have hyr := HC.out.on.rng (j + 1)
            have HST := hidden (HC.out.step hj17 _ _ rfl rfl hgs7 (by omega))
            generalize M.getD j 0 = x at *
            generalize M.getD (j + 1) 0 = y at *
            have w0 : IntKind.i64.wrap (y + x / 256) = y + x / 256 := wraps_i64 _ (by omega) (by omega)
            have ha := shr8 x (by omega) (by omega)
            have b0 : (j : Int) < 17 := by omega
            have b1 : (0 : Int) ≤ (j : Int) := by omega
            have b2 : (j : Int) < 18 := by omega
            have b3 : (0 : Int) ≤ (j : Int) + 1 := by omega
            have b4 : (j : Int) + 1 < 18 := by omega
            have b5 : ((j : Int) + 1).toNat = j + 1 := by omega
            go_upto_region 24 with fail
            go_region
            go_wp2
            go_roundw
            case rel => exact ⟨j + 1, _, by omega, by go_num, HST.out⟩
            case measure => simp [intOf]; omega
          · have hj' : j = 17 := by omega
            have hge17 : ¬ (j : Int) < 17 := by omega
            have hce := HC.out
            rw [hj'] at hce
            have HC1 := hidden hce
            clear hj' hce HC
            have HIM : Hid ((Try.prog.info? 33).map (·.size) = some (ints .i64 M).size) := by show _ = _; rw [info18, ints_size, HC1.out.on.len]
            have HZM : Hid ((ints .i64 (List.replicate 18 (0 : Int))).size = (ints .i64 M).size) := by show _ = _; rw [ints_size, ints_size, HC1.out.on.len]; rfl
            go_upto_region 27 with (first
              | (refine wpList_load_row rfl 33 _ rfl gs rfl 33 _ (0, 0) _ HC1.out.on.row.heap Try.underlying33 rfl HIM.out ?_)
              | (refine wpList_store_row rfl 33 _ _ rfl wr.heap.size (ints .i64 M) rfl rfl 33 _ (heap_alloc_new wr _) HIM.out HZM.out (onek .i64 M) ?_)
              | fail)
            generalize hw10 : World.setRow _ wr.heap.size (ints .i64 M) = w10
            obtain ⟨gn, hgn⟩ : ∃ gn, wr.heap.size = gn := ⟨_, rfl⟩
            have hgsn : gs < gn := by have := HC1.out.on.row.lt; omega
            have hgn7 : w7.heap.size ≤ gn := by omega
            have HS10 : Hid (Wn .i64 w10 gs 33 M) := by
              rw [← hw10]
              exact hidden ((HC1.out.on.row.alloc _).rowOther _ _ (by omega))
            have HN10 : Hid (Wn .i64 w10 gn 33 M) := by
              rw [← hw10, hgn]
              exact hidden ((Wn.new' .i64 wr 33 (List.replicate 18 0) _ rfl gn hgn).row M)
            have HB10 : Hid (Below w7.heap.size w7 w10) := by
              rw [← hw10, hgn]
              exact hidden (below_setRow (HC1.out.on.bel.alloc (by omega) _) hgn7 _)
            have HML := Is.mk HC1.out.on.len
            have HMV := Is.mk HC1.out.val
            have HMR := hidden HC1.out.on.rng
            have HMD := hidden HC1.out.lo
            have hx0 := HN10.out.cell 0 (by rw [HML.eq]; omega)
            have hf0 := HN10.out.fr 0
            have hm0 := HMR.out 0
            have hmd0 := HMD.out 0 (by omega)
            have HSET : Hid (CaI w7 (w10.setCell ⟨gn, 0, none⟩ (.int .i64 (M.getD 0 0 + 5))) gn (M.set 0 (M.getD 0 0 + 5)) (V + 5) 13200 0) := by
              have hon : OnI w7 w10 gn M 13200 := ⟨HN10.out, HB10.out, HML.eq, HMR.out⟩
              refine hidden ⟨hon.set 0 _ (by omega) (by omega) (by omega) hgn7, by rw [num_set _ _ _ (by rw [HML.eq]; omega), HMV.eq]; omega, fun i hi => by omega, fun i hi => ?_⟩
              by_cases hi18 : i < 18
              · rw [getD_setP _ _ _ _ (by rw [HML.eq]; exact hi18), if_neg (by omega)]
                have := HMR.out i; omega
              · rw [List.getD_eq_getElem?_getD, List.getElem?_eq_none (by rw [List.length_set, HML.eq]; omega)]
                simp
            have HSS : Hid (Wn .i64 (w10.setCell ⟨gn, 0, none⟩ (.int .i64 (M.getD 0 0 + 5))) gs 33 M) := HS10.out.other _ _ (by simp; omega)
            have w5' : IntKind.i64.wrap (M.getD 0 0 + 5) = M.getD 0 0 + 5 := wraps_i64 _ (by omega) (by omega)
            generalize M.set 0 (M.getD 0 0 + 5) = N at *
            generalize M.getD 0 0 = x0 at *
            simp only [hgn]
            clear hw10 hgn HC1 HN10 HB10 HS10
            go_wp2
            rename World => wo2
            go_loopw [15] (fun i wr => ∃ (j : Nat) (N : List Int), j ≤ 17 ∧ i = .int .i64 j ∧ CaI w7 wr gn N (V + 5) 13200 j ∧ Wn .i64 wr gs 33 M) (fun i _ => 17 - (intOf i).toNat)
            case atStart => exact ⟨0, N, by omega, rfl, HSET.out, HSS.out⟩
            case round =>
              clear HSET HSS hx0 hf0
              obtain ⟨j, N, hj, rfl, hi, hsm⟩ := hrel
              have HC := hidden hi
              have HSM2 := hidden hsm
              clear hi hsm
              by_cases hj17 : j < 17
              · have hx := HC.out.on.row.cell j (by rw [HC.out.on.len]; omega)
                have hy := HC.out.on.row.cell (j + 1) (by rw [HC.out.on.len]; omega)
                have hf := HC.out.on.row.fr j
                have hf1 := HC.out.on.row.fr (j + 1)
                have hxr := HC.out.on.rng j
                have hyr := HC.out.on.rng (j + 1)
                have HST := hidden (HC.out.step hj17 _ _ rfl rfl hgn7 (by omega))
                generalize N.getD j 0 = x at *
                generalize N.getD (j + 1) 0 = y at *
                have w0 : IntKind.i64.wrap (y + x / 256) = y + x / 256 := wraps_i64 _ (by omega) (by omega)
                have ha := shr8 x (by omega) (by omega)
                have b0 : (j : Int) < 17 := by omega
                have b1 : (0 : Int) ≤ (j : Int) := by omega
                have b2 : (j : Int) < 18 := by omega
                have b3 : (0 : Int) ≤ (j : Int) + 1 := by omega
                have b4 : (j : Int) + 1 < 18 := by omega
                have b5 : ((j : Int) + 1).toNat = j + 1 := by omega
                have HSN : Hid (Wn .i64 (((wr.setCell ⟨gn, j + 1, none⟩ (.int .i64 (y + x / 256))).drew).setCell ⟨gn, j, none⟩ (.int .i64 (x % 256))) gs 33 M) := ((HSM2.out.other _ _ (by simp; omega)).drew).other _ _ (by simp; omega)
                go_upto_region 31 with fail
                go_region
                go_wp2
                go_roundw
                case rel => exact ⟨j + 1, _, by omega, by go_num, HST.out, HSN.out⟩
                case measure => simp [intOf]; omega
              · have hj' : j = 17 := by omega
                have hge17' : ¬ (j : Int) < 17 := by omega
                have hce := HC.out
                rw [hj'] at hce
                have HC2 := hidden hce
                clear hj' hce HC
                have hx16 := HC2.out.on.row.cell 16 (by rw [HC2.out.on.len]; omega)
                have hx17 := HC2.out.on.row.cell 17 (by rw [HC2.out.on.len]; omega)
                have h16 := HC2.out.on.rng 16
                have h17 := HC2.out.on.rng 17
                have HTOP := Is.mk (top_of N HC2.out.on.len (fun i hi => ⟨(HC2.out.on.rng i).1, HC2.out.lo i (by omega)⟩))
                rw [HC2.out.val] at HTOP
                generalize N.getD 16 0 = y16 at *
                generalize N.getD 17 0 = y17 at *
                have wm : IntKind.i64.wrap (256 * y17) = 256 * y17 := wraps_i64 _ (by omega) (by omega)
                have wa : IntKind.i64.wrap (y16 + 256 * y17) = y16 + 256 * y17 := wraps_i64 _ (by omega) (by omega)
                have HIN : Hid ((Try.prog.info? 33).map (·.size) = some (ints .i64 N).size) := by show _ = _; rw [info18, ints_size, HC2.out.on.len]
                have HZN : Hid ((ints .i64 M).size = (ints .i64 N).size) := by show _ = _; rw [ints_size, ints_size, HC2.out.on.len, HML.eq]
                go_upto_if 128 with fail
                go_cut [] from 122 to 129 (fun wx => ∃ X : List Int, X.length = 18 ∧ Wn .i64 wx gs 33 X ∧ Below w7.heap.size w7 wx ∧ (∀ i, i < 16 → 0 ≤ X.getD i 0 ∧ X.getD i 0 ≤ 255) ∧ num 256 X = if 4 ≤ (V + 5) / 340282366920938463463374607431768211456 then V + 5 else V)
                case first =>
                  by_cases h4 : 4 ≤ y16 + 256 * y17
                  · have h4' : ¬ (y16 + 256 * y17 < 4) := by omega
                    have HRN := hidden (HSM2.out.row N)
                    have HBN := hidden (below_setRow HC2.out.on.bel hgs7 (ints .i64 N))
                    go_wp2_with (first
                      | (refine wpList_load_row rfl 33 _ rfl gn rfl 33 _ (0, 0) _ HC2.out.on.row.heap Try.underlying33 rfl HIN.out ?_)
                      | (refine wpList_store_row rfl 33 _ _ rfl gs (ints .i64 N) rfl rfl 33 _ HSM2.out.heap HIN.out HZN.out (onek .i64 N) ?_)
                      | fail)
                    go_meet
                    case rel => exact ⟨N, HC2.out.on.len, HRN.out, HBN.out, fun i hi => ⟨(HC2.out.on.rng i).1, HC2.out.lo i (by omega)⟩, by rw [if_pos (by rw [HTOP.eq]; exact h4), HC2.out.val]⟩
                  · have h4' : y16 + 256 * y17 < 4 := by omega
                    go_wp2
                    go_meet
                    case rel => exact ⟨M, HML.eq, HSM2.out, HC2.out.on.bel, fun i hi => ⟨(HMR.out i).1, HMD.out i (by omega)⟩, by rw [if_neg (by rw [HTOP.eq]; omega), HMV.eq]⟩
                case rest =>
                  obtain ⟨X, hXl, hXw, hXb, hXr, hXv⟩ := hcut
                  have hxx := mod_once V HVR.out.1 HVR.out.2 (num 256 X) hXv
                  obtain ⟨cc, hcc⟩ := hxx
                  have hadn := addL_num 256 (X.take 16) ys (by rw [List.length_take, hXl, HYL.eq]; rfl)
                  have hT : T = dig 256 16 (num 256 (addL (X.take 16) ys)) := HT1.out X hXl _ cc rfl (by rw [hcc, HVE.eq]) (by rw [hadn])
                  have hAl : (addL (X.take 16) ys).length = 16 := by rw [addL_len, List.length_take, hXl, HYL.eq]; rfl
                  have HAG := hidden (fun i (hi : i < 16) => (show (addL (X.take 16) ys).getD i 0 = X.getD i 0 + ys.getD i 0 by
                    rw [addL_get _ _ _ (by rw [List.length_take, hXl]; omega) (by rw [HYL.eq]; omega)]
                    congr 1
                    rw [List.getD_eq_getElem?_getD, List.getD_eq_getElem?_getD, List.getElem?_take, if_pos hi]))
                  have HYG := hidden (fun i => rng_getD HYR.out i)
                  have HXG := hidden hXr
                  have HZR : ∀ i, 0 ≤ (addL (X.take 16) ys).getD i 0 ∧ (addL (X.take 16) ys).getD i 0 ≤ 510 := fun i => by
                    by_cases hi : i < 16
                    · rw [HAG.out i hi]
                      have := HXG.out i hi
                      have := HYG.out i
                      omega
                    · rw [List.getD_eq_getElem?_getD, List.getElem?_eq_none (by rw [hAl]; omega)]; simp
                  have HTD : Hid (∀ i, i < 16 → T.getD i 0 = (outB (addL (X.take 16) ys) i + (addL (X.take 16) ys).getD i 0) % 256) := fun i hi => by
                    rw [hT]
                    exact outB_dig _ 16 i (by rw [hAl]; exact hi) hi
                  have HOS := hidden (fun i (hi : i < 16) => outB_succ (addL (X.take 16) ys) i (by rw [hAl]; exact hi))
                  have HOR := hidden (fun i (hi : i ≤ 16) => outB_rng (addL (X.take 16) ys) HZR i (by rw [hAl]; exact hi))
                  have HO0 := Is.mk (outB_zero (addL (X.take 16) ys))
                  have HXL := Is.mk hXl
                  have HXW := hidden hXw
                  have HXB := hidden hXb
                  generalize addL (X.take 16) ys = A at *
                  clear hcc hadn hT hAl HZR hXl hXw hXb hXr hXv HC2 HSM2 hx16 hx17 HTOP HT1
                  obtain ⟨b6, o6, rfl, hc6⟩ := HT7.out.at_ (by omega)
                  obtain ⟨bk, ok, rfl, hck⟩ := HY7.out.at_ (by omega)
                  have HC6 := hidden hc6
                  have HCK := hidden hck
                  clear hc6 hck
                  have HB70 := hidden (Below.refl wc.heap.size wc)
                  go_wp2
                  go_loopw [16, 17] (fun c i wr => ∃ j : Nat, j ≤ 16 ∧ i = .int .i64 j ∧ c = .int .i64 (outB A j) ∧ Below wc.heap.size wc wr) (fun _ i _ => 16 - (intOf i).toNat)
                  case atStart => exact ⟨0, by omega, rfl, by rw [HO0.eq], HB70.out⟩
                  case round =>
                    obtain ⟨j, hj, rfl, rfl, hb⟩ := hrel
                    have HB := hidden hb
                    clear HB70
                    by_cases hlt16 : j < 16
                    · have x6 := cell_below (HXB.out.trans (hb.mono HXB.out.size)) _ _ (HC6.out j hlt16)
                      have xk := cell_below (HXB.out.trans (hb.mono HXB.out.size)) _ _ (HCK.out j hlt16)
                      have xs := cell_below hb _ _ (HXW.out.cell j (by rw [HXL.eq]; omega))
                      have htd := HTD.out j hlt16
                      have hos := HOS.out j hlt16
                      have hor := HOR.out j hj
                      have hur := HXG.out j hlt16
                      have hkr := HYG.out j
                      rw [HAG.out j hlt16] at htd hos
                      generalize T.getD j 0 = t at *
                      generalize X.getD j 0 = u at *
                      generalize ys.getD j 0 = k' at *
                      have HOS2 := Is.mk hos
                      generalize outB A j = c at *
                      have b0 : (j : Int) < 16 := by omega
                      have b1 : (0 : Int) ≤ (j : Int) := by omega
                      have b2 : (j : Int) < 18 := by omega
                      have w1' : IntKind.i64.wrap (u + k') = u + k' := wraps_i64 _ (by omega) (by omega)
                      have w2' : IntKind.i64.wrap (c + (u + k')) = c + (u + k') := wraps_i64 _ (by omega) (by omega)
                      have htd2 : (c + (u + k')) % 256 = t := htd.symm
                      clear hb hos htd
                      go_upto_region 39 with fail
                      go_region
                      have HBD : Hid (Below wc.heap.size wc wr.drew) := HB.out.drew
                      generalize hcc : c + (u + k') = v at *
                      have hne : (v % 256 != t) = false := by simp [htd2]
                      have HOSV : Is (v / 256) (outB A (j + 1)) := ⟨HOS2.eq.symm⟩
                      clear htd2 hcc
                      go_wp2
                      go_roundw
                      case rel => exact ⟨j + 1, by omega, by go_num, by rw [← HOSV.eq], HBD.out⟩
                      case measure => simp [intOf]; omega
                    · have hge16 : ¬ (j : Int) < 16 := by omega
                      go_wp2
                      go_ret
                      exact ⟨rfl, HW7.out.trans ((HXB.out.trans (HB.out.mono HXB.out.size)).mono HW7.out.size)⟩
end Go.Proofs.Ytnbpangegegccaa
