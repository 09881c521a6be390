/-
  The document's carry.
-/
import Derived.Test.YtnbpangegegccaaRPolyA
namespace Go.Proofs.Ytnbpangegegccaa
open Go.RowKit
set_option linter.unusedVariables false

def midR (H : List Int) (j : Nat) : List Int := if j ≤ 16 then dig 256 j (num 256 (H.take j)) ++ H.drop j else finR H
def uR (H : List Int) (j : Nat) : Int := if j ≤ 16 then outB H j else 5 * ((outB H 16 + H.getD 16 0) / 4)
theorem midR_zero (H : List Int) : midR H 0 = H := by simp [midR, dig]
theorem midR_len (H : List Int) (h : H.length = 17) (j : Nat) (hj : j ≤ 17) : (midR H j).length = 17 := by
  unfold midR
  split
  · simp [dig_len, h]; omega
  · exact finR_len H
theorem midR_get (H : List Int) (j : Nat) (hj : j ≤ 16) : (midR H j).getD j 0 = H.getD j 0 := by
  unfold midR
  rw [if_pos hj]
  exact getD_mid _ _ _ (dig_len _ _ _)
theorem midR_succ (H : List Int) (h : H.length = 17) (j : Nat) (hj : j < 16) : (midR H j).set j ((uR H j + H.getD j 0) % 256) = midR H (j + 1) := by
  unfold midR uR
  rw [if_pos (by omega), if_pos (by omega), if_pos (by omega), set_mid _ _ _ _ (dig_len _ _ _) (by omega)]
  have := carry_dig 256 0 (by omega) H j (by omega)
  simp only [Int.add_zero] at this
  rw [this]
  rfl
theorem uR_succ (H : List Int) (h : H.length = 17) (j : Nat) (hj : j < 16) : (uR H j + H.getD j 0) / 256 = uR H (j + 1) := by
  unfold uR
  rw [if_pos (by omega), if_pos (by omega), outB_succ H j (by omega)]
theorem midR_last (H : List Int) (h : H.length = 17) (v : Int) : ((midR H 16).set 16 v).set 16 ((uR H 16 + H.getD 16 0) % 4) = midR H 17 := by
  rw [List.set_set]
  unfold midR uR finR
  rw [if_pos (by omega), if_pos (by omega), if_neg (by omega), set_mid _ _ _ _ (dig_len _ _ _) (by omega), List.drop_of_length_le (by omega), List.append_nil]
theorem uR_last (H : List Int) : 5 * ((uR H 16 + H.getD 16 0) / 4) = uR H 17 := by
  unfold uR
  rw [if_pos (by omega), if_neg (by omega)]
theorem uR_rng (H : List Int) (h : H.length = 17) (ha : ∀ i, 0 ≤ H.getD i 0 ∧ H.getD i 0 < 2147483648) (j : Nat) (hj : j ≤ 16) : 0 ≤ uR H j ∧ uR H j ≤ 8421505 := by
  induction j with
  | zero => simp [uR, outB_zero]
  | succ j ih =>
    have := ih (by omega)
    have := ha j
    rw [← uR_succ H h j (by omega)]
    omega
theorem roundR_is (H : List Int) : (midR H 17).set 0 ((midR H 17).getD 0 0 + uR H 17) = roundR H := by
  unfold midR uR roundR
  rw [if_neg (by omega), if_neg (by omega)]
/-- What lies where in a round. -/
structure RcI (w wr : World) (n : Nat) (L : List Int) : Prop where
  row : Wn .u32 wr n 53 L
  z : Wn .u32 wr (n + 1) 53 (List.replicate 17 0)
  bel : Below n w wr
theorem RcI.set {w wr : World} {n : Nat} {L : List Int} (h : RcI w wr n L) (j : Nat) (v : Int) : RcI w (wr.setCell ⟨n, j, none⟩ (.int .u32 v)) n (L.set j v) :=
  ⟨h.row.set _ _, h.z.other _ _ (by simp), h.bel.setCell (Nat.le_refl _) _⟩

set_option maxHeartbeats 3200000 in
set_option maxRecDepth 100000 in
theorem rcarry_any (L : List Int) (h0 : InvR 0 L) (w : World) :
    Calls Try.prog 26 #[.agg (ints .u32 L)] w fun e w' => ∃ R, e = .returned (.agg (ints .u32 R)) ∧ Nrm R ∧ (∃ t, num 256 R + t * P130 = num 256 L) ∧ Below w.heap.size w w' := by
  have H0 := hidden h0
  go_enter Try.func26, Try.ntmps26
  go_upto_region 1 with fail
  have hA : RcI w ((w.alloc (.cells (ints .u32 L) 53)).alloc (.cells #[.int .u32 0, .int .u32 0, .int .u32 0, .int .u32 0, .int .u32 0, .int .u32 0, .int .u32 0, .int .u32 0, .int .u32 0, .int .u32 0, .int .u32 0, .int .u32 0, .int .u32 0, .int .u32 0, .int .u32 0, .int .u32 0, .int .u32 0] 53)) w.heap.size L :=
    ⟨(Wn.new .u32 w 53 L _ rfl).alloc _, Wn.new' .u32 _ 53 (List.replicate 17 0) _ rfl _ (by simp), ((Below.refl _ w).alloc (Nat.le_refl _) _).alloc (by simp) _⟩
  obtain ⟨n, hn⟩ : ∃ n, w.heap.size = n := ⟨_, rfl⟩
  simp only [hn] at hA ⊢
  have HN := hidden hn
  have HA0 := hidden hA
  have HT0 : Hid (num 256 L + 0 * P130 = num 256 L) := by show num 256 L + 0 * P130 = num 256 L; omega
  clear hA hn h0
  go_wp2
  go_loopw [3] (fun i wr => ∃ (r : Nat) (H : List Int) (t : Int), r ≤ 3 ∧ i = .int .i64 r ∧ RcI w wr n H ∧ Hid (InvR r H) ∧ Hid (num 256 H + t * P130 = num 256 L)) (fun i _ => 3 - (intOf i).toNat)
  case atStart => exact ⟨0, L, 0, by omega, rfl, HA0.out, H0, HT0⟩
  case round =>
    clear HA0 H0 HT0
    obtain ⟨r, H, t, hr, rfl, hi, HIV, HT⟩ := hrel
    have HI := hidden hi
    clear hi
    by_cases hrt : r < 3
    · have hr3 : (r : Int) < 3 := by omega
      have hrd : decide ((r : Int) < 3) = true := by simp; omega
      have HGET := hidden (fun j (hj : j ≤ 16) => midR_get H j hj)
      have HLEN := hidden (fun j (hj : j ≤ 17) => midR_len H HIV.out.len j hj)
      have HSUC := hidden (fun j (hj : j < 16) => midR_succ H HIV.out.len j hj)
      have HUSU := hidden (fun j (hj : j < 16) => uR_succ H HIV.out.len j hj)
      have HLST := hidden (fun v => midR_last H HIV.out.len v)
      have HULS := Is.mk (uR_last H)
      have HURN := hidden (fun j (hj : j ≤ 16) => uR_rng H HIV.out.len HIV.out.all j hj)
      have HALL := hidden HIV.out.all
      have HRND := Is.mk (roundR_is H)
      have HNXT := hidden (HIV.out.round r H hrt)
      have HNUM := Is.mk (roundR_num H HIV.out.len)
      have HFST := hidden (finR_get H 0 (by omega))
      have HM17 : Is (midR H 17) (finR H) := ⟨by unfold midR; rw [if_neg (by omega)]⟩
      have HU17 := hidden (show 0 ≤ uR H 17 ∧ uR H 17 ≤ 2900000000 by
        rw [← uR_last H]
        have := uR_rng H HIV.out.len HIV.out.all 16 (by omega)
        have := HIV.out.all 16
        omega)
      have HM0 : Hid (RcI w wr n (midR H 0)) := by show RcI w wr n (midR H 0); rw [midR_zero]; exact HI.out
      have HU0 : Is (uR H 0) 0 := ⟨by simp [uR, outB_zero]⟩
      clear HI
      go_wp2
      rename World => wo
      go_loopw [4, 5] (fun u i wr => ∃ j : Nat, j ≤ 17 ∧ i = .int .i64 j ∧ u = .int .u32 (uR H j) ∧ RcI w wr n (midR H j)) (fun _ i _ => 17 - (intOf i).toNat)
      case atStart => exact ⟨0, by omega, rfl, by rw [HU0.eq], HM0.out⟩
      case round =>
        clear HM0 HU0
        obtain ⟨j, hj, rfl, rfl, hi⟩ := hrel
        have HI := hidden hi
        clear hi
        by_cases hj16 : j < 16
        · have hx := HI.out.row.cell j (by rw [HLEN.out j hj]; omega)
          rw [HGET.out j (by omega)] at hx
          have hf := HI.out.row.fr j
          have hxr := HALL.out j
          have hur := HURN.out j (by omega)
          have HS1 := Is.mk (HSUC.out j hj16)
          have HS2 := Is.mk (HUSU.out j hj16)
          generalize H.getD j 0 = x at hx hxr HS1 HS2
          generalize uR H j = u at *
          have w0 : IntKind.u32.wrap (u + x) = u + x := by rw [IntKind.wrap_u32']; omega
          have ha := and255w (u + x) (by omega) (by omega)
          have HN1 : Hid (RcI w (wr.setCell ⟨n, j, none⟩ (.int .u32 ((u + x) % 256))) n (midR H (j + 1))) := by rw [← HS1.eq]; exact hidden (HI.out.set j _)
          have b0 : (j : Int) < 17 := by omega
          have b1 : (0 : Int) ≤ (j : Int) := by omega
          have b2 : ((j : Int) == 16) = false := by simp; omega
          go_wp2
          go_roundw
          case rel => exact ⟨j + 1, by omega, by go_num, by rw [← HS2.eq], HN1.out⟩
          case measure => simp [intOf]; omega
        · by_cases hj17 : j = 16
          · have hx := HI.out.row.cell j (by rw [HLEN.out j hj]; omega)
            rw [HGET.out j (by omega)] at hx
            have hf := HI.out.row.fr j
            have hxr := HALL.out j
            have hur := HURN.out j (by omega)
            have HL1 := hidden HLST.out
            have HU1 := Is.mk HULS.eq
            rw [← hj17] at HL1 HU1
            generalize H.getD j 0 = x at hx hxr HL1 HU1
            generalize uR H j = u at *
            have w0 : IntKind.u32.wrap (u + x) = u + x := by rw [IntKind.wrap_u32']; omega
            have ha := and255w (u + x) (by omega) (by omega)
            have ha3 := and3w (u + x) (by omega) (by omega)
            have w5 : IntKind.u32.wrap (5 * ((u + x) / 4)) = 5 * ((u + x) / 4) := by rw [IntKind.wrap_u32']; omega
            have HN1 : Hid (RcI w ((wr.setCell ⟨n, j, none⟩ (.int .u32 ((u + x) % 256))).setCell ⟨n, j, none⟩ (.int .u32 ((u + x) % 4))) n (midR H (16 + 1))) := by
              rw [← HL1.out ((u + x) % 256)]
              exact hidden ((HI.out.set j _).set j _)
            rw [← hj17] at HN1
            have HU2 : Is (5 * ((u + x) / 4)) (uR H (j + 1)) := ⟨by rw [HU1.eq, hj17]⟩
            have b0 : (j : Int) < 17 := by omega
            have b1 : (0 : Int) ≤ (j : Int) := by omega
            have b2 : ((j : Int) == 16) = true := by simp; omega
            clear hj17 HL1 HU1
            go_wp2
            go_roundw
            case rel => exact ⟨j + 1, by omega, by go_num, by rw [HU2.eq], HN1.out⟩
            case measure => simp [intOf]; omega
          · have hje : j = 17 := by omega
            have hge : ¬ (j : Int) < 17 := by omega
            rw [← hje] at HU17 HM17 HRND
            have hx := HI.out.row.cell 0 (by rw [HLEN.out j (by omega)]; omega)
            have hf := HI.out.row.fr 0
            have hf0 := HFST.out
            have hur := HU17.out
            rw [← HM17.eq] at hf0
            clear hje
            generalize hmx : (midR H j).getD 0 0 = x at *
            generalize uR H j = u at *
            have w0 : IntKind.u32.wrap (x + u) = x + u := by rw [IntKind.wrap_u32']; omega
            have HN1 : Hid (RcI w (wr.setCell ⟨n, 0, none⟩ (.int .u32 (x + u))) n (roundR H)) := by rw [← HRND.eq]; exact hidden (HI.out.set 0 _)
            have HTN : Hid (num 256 (roundR H) + (t + num 256 H / 1361129467683753853853498429727072845824) * P130 = num 256 L) := by
              show num 256 (roundR H) + (t + num 256 H / 1361129467683753853853498429727072845824) * P130 = num 256 L
              have h1 := HNUM.eq
              have h2 := HT.out
              rw [h1]
              grind
            clear hmx
            go_wp2
            go_roundw
            case rel => exact ⟨r + 1, roundR H, _, by omega, by go_num, HN1.out, HNXT, HTN⟩
            case measure => simp [intOf]; omega
    · have hre : r = 3 := by omega
      have hge : ¬ (r : Int) < 3 := by omega
      have hrd : decide ((r : Int) < 3) = false := by simp; omega
      have hiv := HIV.out
      rw [hre] at hiv
      have HNR := hidden hiv.nrm
      have HIR := hidden (infoRL H hiv.len)
      have HZR := hidden (zeroRL H hiv.len)
      clear hre hiv
      go_wp2_with (first
        | (refine wpList_load_row rfl 53 _ rfl n rfl 53 _ (0, 0) _ HI.out.row.heap Try.underlying53 rfl HIR.out ?_)
        | (refine wpList_store_row rfl 53 _ _ rfl (n + 1) (ints .u32 H) rfl rfl 53 _ HI.out.z.heap HIR.out HZR.out (onek .u32 H) ?_)
        | fail)
      refine bodyPost_ret (results_cell_row rfl _ _ (n + 1) 53 _ _ _ rfl (HI.out.z.row H).heap Try.underlying53 rfl HIR.out) rfl ?_
      exact ⟨H, rfl, HNR.out, ⟨t, HT.out⟩, by rw [HN.out]; exact below_setRow HI.out.bel (by omega) _⟩
end Go.Proofs.Ytnbpangegegccaa
