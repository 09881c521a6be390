/-
  The document's decode: the digits that a point's bytes stand for.
-/
import Derived.Test.YtilnbmlbahflkaaMRCrvInv
import Derived.Test.YtilnbmlbahflkaaMCrvConv
namespace Go.Proofs.Ytilnbmlbahflkaa
open Go.RowKit
set_option linter.unusedVariables false

def pairsD : List Int → List Int
  | a :: b :: l => (a + b * 256) :: pairsD l
  | _ => []
theorem pairsD_len : ∀ (m : Nat) (l : List Int), l.length = 2 * m → (pairsD l).length = m
  | 0, [], _ => rfl
  | 0, _ :: _, h => by simp at h
  | m + 1, [], h => by simp at h
  | m + 1, [_], h => by simp at h; omega
  | m + 1, a :: b :: l, h => by
    have := pairsD_len m l (by simp at h; omega)
    simp only [pairsD, List.length_cons, this]
theorem pairsD_num : ∀ (m : Nat) (l : List Int), l.length = 2 * m → num B16 (pairsD l) = num 256 l
  | 0, [], _ => rfl
  | 0, _ :: _, h => by simp at h
  | m + 1, [], h => by simp at h
  | m + 1, [_], h => by simp at h; omega
  | m + 1, a :: b :: l, h => by
    have := pairsD_num m l (by simp at h; omega)
    simp only [pairsD, num, this]
    unfold B16
    omega
theorem pairsD_get : ∀ (i m : Nat) (l : List Int), l.length = 2 * m → i < m → (pairsD l).getD i 0 = l.getD (2 * i) 0 + l.getD (2 * i + 1) 0 * 256
  | _, 0, _, _, h => by omega
  | _, m + 1, [], h, _ => by simp at h
  | _, m + 1, [_], h, _ => by simp at h; omega
  | 0, m + 1, a :: b :: l, _, _ => rfl
  | i + 1, m + 1, a :: b :: l, h, hi => by
    have := pairsD_get i m l (by simp at h; omega) (by omega)
    simp only [pairsD]
    rw [List.getD_cons_succ, this, show 2 * (i + 1) = 2 * i + 1 + 1 by omega, List.getD_cons_succ, List.getD_cons_succ, List.getD_cons_succ, List.getD_cons_succ]
theorem pairsD_ld (l : List Int) (h : l.length = 32) (hr : ∀ x ∈ l, 0 ≤ x ∧ x ≤ 255) : Ld 65536 (pairsD l) := by
  refine ld_of _ _ (pairsD_len 16 l h) fun j hj => ?_
  rw [pairsD_get j 16 l h hj]
  have h1 := rng_getD hr (2 * j)
  have h2 := rng_getD hr (2 * j + 1)
  omega
/-- Without the bit 255. -/
def decD (l : List Int) : List Int := (pairsD l).set 15 ((pairsD l).getD 15 0 % 32768)
theorem decD_ok (l : List Int) (h : l.length = 32) (hr : ∀ x ∈ l, 0 ≤ x ∧ x ≤ 255) : Ld 65536 (decD l) ∧ fd (decD l) = toK (num 256 l % 2 ^ 255) := by
  have hp := pairsD_ld l h hr
  have hl := hp.len
  have h15 := hp.get 15 (by omega)
  have hd : Ld 65536 (decD l) := by
    refine ⟨by unfold decD; rw [List.length_set]; exact hl, fun x hx => ?_⟩
    unfold decD at hx
    rcases List.mem_or_eq_of_mem_set hx with hx | rfl
    · exact hp.rng x hx
    · omega
  refine ⟨hd, ?_⟩
  have e1 : num B16 (decD l) = num 256 l + B16 ^ 15 * ((pairsD l).getD 15 0 % 32768 - (pairsD l).getD 15 0) := by
    rw [← pairsD_num 16 l h, ← num_set B16 (pairsD l) 15 (by omega)]
    unfold decD
    congr 2
    omega
  have e2 : num B16 (decD l) = num B16 ((decD l).take 15) + B16 ^ 15 * ((pairsD l).getD 15 0 % 32768) := by
    have := num_take B16 (decD l) 15 (by rw [hd.len]; omega)
    rw [List.take_of_length_le (by rw [hd.len]; omega)] at this
    rw [this]
    congr 2
    unfold decD
    rw [List.getD_eq_getElem?_getD, List.getElem?_set_self (by omega)]
    rfl
  have hlt := num_lt B16_pos ((decD l).take 15) (fun x hx => hd.rng x (List.mem_of_mem_take hx))
  have hge := num_nonneg (Int.le_of_lt B16_pos) ((decD l).take 15) (fun x hx => (hd.rng x (List.mem_of_mem_take hx)).1)
  have ht : ((decD l).take 15).length = 15 := by rw [List.length_take, hd.len]; rfl
  rw [ht] at hlt
  unfold fd
  congr 1
  have hq : (2 : Int) ^ 255 = 57896044618658097711785492504343953926634992332820282019728792003956564819968 := by decide
  rw [pow15] at *
  rw [hq]
  generalize num B16 (decD l) = v at *
  generalize num B16 ((decD l).take 15) = t at *
  generalize num 256 l = u at *
  generalize (pairsD l).getD 15 0 = y at *
  omega
theorem or_hi (x y : Int) (hx : 0 ≤ x ∧ x ≤ 255) (hy : 0 ≤ y ∧ y ≤ 255) : bits .or .u64 x (y * 256) = x + y * 256 := by
  rw [u64_or x (y * 256) hx.1 (by omega) (by omega) (by omega), Nat.or_comm, nat_join 8 (y * 256).toNat x.toNat (by omega) (by omega)]
  omega
theorem and15 (x : Int) (h0 : 0 ≤ x) (h1 : x < 18446744073709551616) : bits .and .u64 x 32767 = x % 32768 :=
  bits_mask .u64 64 (by decide) (fun n h0 h1 => by rw [IntKind.wrap_u64]; omega) 15 (by decide) x h0 h1

set_option maxHeartbeats 1600000 in
set_option maxRecDepth 100000 in
theorem rdecode_any (p : Option Addr) (c : Nat) (xs : List Int) (w : World) (h : Byt w p 32 c xs) :
    Calls Try.prog 22 #[.slice p 32 c] w fun e w' => ∃ R, e = .returned (.agg (ints .u64 R)) ∧ Ld 65536 R ∧ fd R = toK (num 256 xs % 2 ^ 255) ∧ Below w.heap.size w w' := by
  have hbig := h.le
  have hcap := h.cap
  have hrng := h.rng
  have hlen := h.len
  have HOK := hidden (decD_ok xs hlen hrng)
  obtain ⟨b, o, rfl, hc⟩ := h.at_ (by omega)
  have HC := hidden (fun W (hW : Below w.heap.size w W) j (hj : j < 32) => (show W.cell? ⟨b, o + j, none⟩ = some (.int .u8 (xs.getD j 0)) from cell_below hW _ _ (hc j hj)))
  have HX := hidden (fun j => rng_getD hrng j)
  have HG := hidden (fun j (hj : j < 16) => pairsD_get j 16 xs hlen hj)
  have hXl := pairsD_len 16 xs hlen
  have hz16 : (List.replicate 16 (0 : Int)).length = 16 := rfl
  have HM0 := Is.mk (mixL_zero (pairsD xs) (List.replicate 16 0))
  have HML := hidden (fun j => mixL_len (pairsD xs) (List.replicate 16 0) j hXl hz16)
  have HMS := hidden (fun j (hj : j < 16) => mixL_succ (pairsD xs) (List.replicate 16 0) j hXl hz16 hj)
  have HME := Is.mk (mixL_end (pairsD xs) (List.replicate 16 0) hXl hz16)
  have HXL := Is.mk hXl
  have HR15 := hidden ((pairsD_ld xs hlen hrng).get 15 (by omega))
  have HD : Is (decD xs) ((pairsD xs).set 15 ((pairsD xs).getD 15 0 % 32768)) := ⟨rfl⟩
  have HIR := hidden (infoD (decD xs) HOK.out.1.len)
  have HZR := hidden (zero16 (decD xs) HOK.out.1.len)
  generalize decD xs = R at *
  generalize pairsD xs = X at *
  clear hrng hlen hc hXl hz16 h
  go_enter Try.func22, Try.ntmps22
  go_upto_region 2 with fail
  generalize hw1 : World.alloc _ (.cells _ 54) = w1
  have hZ : Wn .u64 w1 w.heap.size 54 (List.replicate 16 0) := by
    rw [← hw1]
    exact (Wn.new .u64 w 54 (List.replicate 16 0) _ rfl).alloc _
  have hO : Wn .u64 w1 (w.heap.size + 1) 54 (mixL X (List.replicate 16 0) 0) := by
    rw [← hw1, HM0.eq]
    exact Wn.new' .u64 _ 54 (List.replicate 16 0) _ rfl _ (by simp)
  have hb : Below w.heap.size w w1 := by
    rw [← hw1]
    exact ((Below.refl _ w).alloc (Nat.le_refl _) _).alloc (by simp) _
  clear hw1
  obtain ⟨n, hn⟩ : ∃ n, w.heap.size = n := ⟨_, rfl⟩
  simp only [hn] at hZ hO hb HC ⊢
  have HN := hidden hn
  have HZ0 := hidden hZ
  have HO0 := hidden hO
  have HB0 := hidden hb
  clear hZ hO hb hn
  go_wp2
  go_loopw [4] (fun i wr => ∃ (j : Nat), j ≤ 16 ∧ i = .int .i64 j ∧ Wn .u64 wr n 54 (List.replicate 16 0) ∧ Wn .u64 wr (n + 1) 54 (mixL X (List.replicate 16 0) j) ∧ Below n w wr) (fun i _ => 16 - (intOf i).toNat)
  case atStart => exact ⟨0, by omega, rfl, HZ0.out, HO0.out, HB0.out⟩
  case round =>
    obtain ⟨i, hi, rfl, hz, ho, hb⟩ := hrel
    have HZ := hidden hz
    have HO := hidden ho
    have HB := hidden hb
    clear hz ho hb HZ0 HO0 HB0
    by_cases hlt : i < 16
    · have hg := HG.out i hlt
      have hms := HMS.out i hlt
      rw [hg] at hms
      have hcx := HC.out wr HB.out (2 * i) (by omega)
      have hcy := HC.out wr HB.out (2 * i + 1) (by omega)
      have hcz := HO.out.cell i (by rw [HML.out]; exact hlt)
      have hfz := HO.out.fr i
      have hx := HX.out (2 * i)
      have hy := HX.out (2 * i + 1)
      have ho2 := HO.out.set i (xs.getD (2 * i) 0 + xs.getD (2 * i + 1) 0 * 256)
      rw [hms] at ho2
      have HO2 := hidden ho2
      clear ho2 hms hg
      generalize xs.getD (2 * i) 0 = x at *
      generalize xs.getD (2 * i + 1) 0 = y at *
      have hor := or_hi x y hx hy
      have wr0 : IntKind.u64.wrap (y * 256) = y * 256 := by rw [IntKind.wrap_u64]; omega
      have wr1 : IntKind.u64.wrap x = x := by rw [IntKind.wrap_u64]; omega
      have wr2 : IntKind.u64.wrap y = y := by rw [IntKind.wrap_u64]; omega
      have b0 : (i : Int) < 16 := by omega
      have b1 : (0 : Int) ≤ (i : Int) := by omega
      have e1 : IntKind.i64.wrap (2 * (i : Int)) = 2 * (i : Int) := wraps_i64 _ (by omega) (by omega)
      have e2 : IntKind.i64.wrap (2 * (i : Int) + 1) = 2 * (i : Int) + 1 := wraps_i64 _ (by omega) (by omega)
      have e3 : (2 * (i : Int)).toNat = 2 * i := by omega
      have e4 : (2 * (i : Int) + 1).toNat = 2 * i + 1 := by omega
      have e5 : (0 : Int) ≤ 2 * (i : Int) := by omega
      have e6 : (0 : Int) ≤ 2 * (i : Int) + 1 := by omega
      have e7 : 2 * (i : Int) < 32 := by omega
      have e8 : 2 * (i : Int) + 1 < 32 := by omega
      go_upto_region 5 with fail
      go_region
      all_goals
        have HZ2 : Hid (Wn .u64 ((wr.setCell ⟨n + 1, i, none⟩ (.int .u64 (x + y * 256))).drew) n 54 (List.replicate 16 0)) := hidden ((HZ.out.other _ _ (by simp)).drew)
        have HB2 : Hid (Below n w ((wr.setCell ⟨n + 1, i, none⟩ (.int .u64 (x + y * 256))).drew)) := hidden ((HB.out.setCell (by simp) _).drew)
        have HO3 := hidden (HO2.out.drew)
        clear HO2 HO HZ HB hcx hcy hcz hfz hor wr0
        generalize World.drew _ = w5 at *
        go_wp2
        go_roundw
        case rel => exact ⟨i + 1, by omega, by go_num, HZ2.out, HO3.out, HB2.out⟩
        case measure => simp [intOf]; omega
    · have hi5 : i = 16 := by omega
      have hge : ¬ (i : Int) < 16 := by omega
      have ho := HO.out
      rw [hi5, HME.eq] at ho
      have hcz := ho.cell 15 (by rw [HXL.eq]; omega)
      have hfz := ho.fr 15
      have hr := HR15.out
      have ho2 := ho.set 15 (X.getD 15 0 % 32768)
      rw [← HD.eq] at ho2
      have HE := hidden ho2
      obtain ⟨hl, hf⟩ := HOK.out
      have HL := hidden hl
      have HF := hidden hf
      clear hi5 ho ho2 hl hf HO
      generalize X.getD 15 0 = z at *
      have hand := and15 z hr.1 (by omega)
      have HZ2 : Hid (Wn .u64 (wr.setCell ⟨n + 1, 15, none⟩ (.int .u64 (z % 32768))) n 54 (List.replicate 16 0)) := hidden (HZ.out.other _ _ (by simp))
      have HB2 : Hid (Below n w (wr.setCell ⟨n + 1, 15, none⟩ (.int .u64 (z % 32768)))) := hidden (HB.out.setCell (by simp) _)
      clear HZ HB
      go_wp2_with (first
        | (refine wpList_load_row rfl 54 _ rfl (n + 1) rfl 54 _ (0, 0) _ HE.out.heap Try.underlying54 rfl HIR.out ?_)
        | (refine wpList_store_row rfl 54 _ _ rfl n (ints .u64 R) rfl rfl 54 _ HZ2.out.heap HIR.out HZR.out (onek .u64 R) ?_)
        | fail)
      refine bodyPost_ret (results_cell_row rfl _ _ n 54 _ _ _ rfl (HZ2.out.row R).heap Try.underlying54 rfl HIR.out) rfl ?_
      exact ⟨R, rfl, HL.out, HF.out, by rw [HN.out]; exact below_setRow HB2.out (Nat.le_refl _) _⟩
end Go.Proofs.Ytilnbmlbahflkaa
