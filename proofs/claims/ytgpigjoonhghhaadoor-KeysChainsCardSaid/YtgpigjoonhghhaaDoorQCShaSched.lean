/-
  sha256.schedule: the words that are made of a block.
-/
import Derived.Test.YtgpigjoonhghhaaDoorQCShaRot
import Derived.Test.YtgpigjoonhghhaaDoorQCShaWd
import Derived.Test.YtgpigjoonhghhaaDoorQCWNumber
import Derived.Deep.CutBlock
import Derived.Laws.CopyOwn
import Derived.Deep.RegionHeld3
namespace Go.Proofs.YtgpigjoonhghhaaDoor
open Go.RowKit
set_option linter.unusedVariables false
theorem info64 : (Tryd.prog.info? 93).map (·.size) = some 64 := by kernel_rfl
theorem nxt_mod (x y u v : Int) : nxt x y u v = (((bits .xor .u32 (bits .xor .u32 (rotr x 17) (rotr x 19)) (x / 1024) + u) % 4294967296 + bits .xor .u32 (bits .xor .u32 (rotr y 7) (rotr y 18)) (y / 8)) % 4294967296 + v) % 4294967296 := by
  unfold nxt
  omega
set_option maxHeartbeats 1600000 in
set_option maxRecDepth 100000 in
theorem sched_any (p : Option Addr) (c : Nat) (xs : List Int) (w : World) (h : Byt w p 64 c xs) :
    Calls Tryd.prog 75 #[.slice p 64 c] w fun e w' => e = .returned (.agg ((sched 48 (words xs 16)).map (Value.int .u32)).toArray) ∧ Below w.heap.size w w' := by
  have H := hidden h
  have hL0 : (words xs 16).length = 16 := words_len _ _
  obtain ⟨W0, hW0⟩ : ∃ W0, words xs 16 = W0 := ⟨_, rfl⟩
  obtain ⟨S, hS⟩ : ∃ S, sched 48 W0 = S := ⟨_, rfl⟩
  have hSl : S.length = 64 := by rw [← hS, sched_len, ← hW0, hL0]
  rw [hW0, hS]
  rw [hW0] at hL0
  have HS := Is.mk hS
  have HW0 := Is.mk hW0
  have HL0 := Is.mk hL0
  have HSL := Is.mk hSl
  have HLEN := Is.mk h.len
  clear hS hL0 hSl hW0 h
  go_enter Tryd.func75, Tryd.ntmps75
  go_upto_region 2 with fail
  generalize hw1 : (w.alloc (.cells _ 93)).alloc (.cells _ 93) = w1
  have hr : Wd w1 w.heap.size 93 (List.replicate 64 0) := by
    rw [← hw1]
    exact (Wd.new w _ (List.replicate 64 0) _ rfl).alloc _
  have hd : Wd w1 (w.heap.size + 1) 93 (List.replicate 64 0) := by
    rw [← hw1]
    have := Wd.new (w.alloc (.cells ((List.replicate 64 0).map (Value.int .u32)).toArray 93)) 93 (List.replicate 64 0) _ rfl
    rw [World.size_alloc] at this
    exact this
  have hb : Below w.heap.size w w1 := by
    rw [← hw1]
    exact ((Below.refl _ w).alloc (Nat.le_refl _) _).alloc (by simp) _
  clear hw1
  obtain ⟨n, hn⟩ : ∃ n, w.heap.size = n := ⟨_, rfl⟩
  simp only [hn] at hr hd hb ⊢
  have HN := hidden hn
  clear hn
  have HR := hidden hr
  have HD := hidden hd
  have HB := hidden hb
  clear hr hd hb
  go_wp2
  go_loopw [10] (fun i wr => ∃ k : Nat, k ≤ 16 ∧ i = .int .i64 k ∧ Wd wr n 93 (List.replicate 64 0) ∧ Wd wr (n + 1) 93 (words xs k ++ List.replicate (64 - k) 0) ∧ Below n w wr) (fun i _ => 16 - (intOf i).toNat)
  case atStart => exact ⟨0, by omega, rfl, HR.out, HD.out, HB.out⟩
  case round =>
    obtain ⟨k, hk, rfl, hr, hd, hb⟩ := hrel
    have HR := hidden hr
    have HD := hidden hd
    have HB := hidden hb
    have hlt := hd.lt
    have hfr := hd.fr k
    have hX : Byt wr p 64 c xs := H.out.below (by rw [HN.out]; exact hb)
    have HX := hidden hX
    have hv := val_bd ((xs.drop (4 * k)).take 4) (rng_take (rng_drop hX.rng _) _)
    clear hr hd hb hX
    by_cases hlt : k < 16
    · have hl4 : ((xs.drop (4 * k)).take 4).length = 4 := by have := HLEN.eq; simp; omega
      rw [hl4] at hv
      have hc : wr.cell? ⟨n + 1, k, none⟩ = some (.int .u32 ((words xs k ++ List.replicate (64 - k) 0).getD k 0)) := HD.out.cell k (by simp [words_len]; omega)
      obtain ⟨v, hve⟩ : ∃ v, val ((xs.drop (4 * k)).take 4) = v := ⟨_, rfl⟩
      have e4 : ((4 * k : Nat) : Int) = 4 * (k : Int) := by omega
      have HC : Hid (Calls Tryd.prog 78 #[.slice p 64 c, .int .i64 (4 * (k : Int)), .int .i64 4] wr fun e w' => e = .returned (.tuple #[.int .u64 v, .bool true]) ∧ wr = w') := by
        have := number_yes p 64 c xs wr HX.out (4 * k) 4 (by omega) (by omega) (by omega)
        rw [hve, e4] at this
        exact this
      rw [hve] at hv
      clear e4 hl4
      have hmod : v % 4294967296 = v := by omega
      go_wp2_with (go_at_call 78; (with_reducible refine (HC.out).mono ?_); rintro e w' ⟨rfl, rfl⟩)
      go_roundw
      case rel =>
        refine ⟨k + 1, by omega, by go_num, HR.out.other _ _ (by simp), ?_, HB.out.setCell (by simp) _⟩
        have := HD.out.set k v
        rw [set_fill _ _ _ _ (words_len _ _) (by omega)] at this
        rw [words, hve]
        exact this
      case measure => simp [intOf]; omega
    · have HD2 : Hid (Wd wr (n + 1) 93 (W0 ++ List.replicate (64 - 16) 0)) := by
        have e : k = 16 := by omega
        have := HD.out
        rw [e, HW0.eq] at this
        exact this
      clear hv HX H HD HW0
      go_wp2
      go_loopw [7] (fun i wr => ∃ (k : Nat) (L : List Int), k ≤ 64 ∧ 16 ≤ k ∧ i = .int .i64 k ∧ L.length = k ∧ Is (sched (64 - k) L) S ∧ Wd wr n 93 (List.replicate 64 0) ∧ Wd wr (n + 1) 93 (L ++ List.replicate (64 - k) 0) ∧ Below n w wr) (fun i _ => 64 - (intOf i).toNat)
      case atStart => exact ⟨16, W0, by omega, by omega, rfl, HL0.eq, HS, HR.out, HD2.out, HB.out⟩
      case round =>
        obtain ⟨k, L, hk, hk6, rfl, hL, HS, hr, hd, hb⟩ := hrel
        have HR := hidden hr
        have HD := hidden hd
        have HB := hidden hb
        have hlt := hd.lt
        have hfr := hd.fr k
        clear hr hd hb
        by_cases hlt : k < 64
        · obtain ⟨x, hx⟩ : ∃ x, L.getD (k - 2) 0 = x := ⟨_, rfl⟩
          obtain ⟨y, hy⟩ : ∃ y, L.getD (k - 15) 0 = y := ⟨_, rfl⟩
          obtain ⟨u, hu⟩ : ∃ u, L.getD (k - 7) 0 = u := ⟨_, rfl⟩
          obtain ⟨v, hv⟩ : ∃ v, L.getD (k - 16) 0 = v := ⟨_, rfl⟩
          have cx : wr.cell? ⟨n + 1, k - 2, none⟩ = some (.int .u32 x) := by rw [← hx, ← getD_fill L (List.replicate (64 - k) 0) _ (by omega)]; exact HD.out.cell _ (by simp; omega)
          have cy : wr.cell? ⟨n + 1, k - 15, none⟩ = some (.int .u32 y) := by rw [← hy, ← getD_fill L (List.replicate (64 - k) 0) _ (by omega)]; exact HD.out.cell _ (by simp; omega)
          have cu : wr.cell? ⟨n + 1, k - 7, none⟩ = some (.int .u32 u) := by rw [← hu, ← getD_fill L (List.replicate (64 - k) 0) _ (by omega)]; exact HD.out.cell _ (by simp; omega)
          have cv : wr.cell? ⟨n + 1, k - 16, none⟩ = some (.int .u32 v) := by rw [← hv, ← getD_fill L (List.replicate (64 - k) 0) _ (by omega)]; exact HD.out.cell _ (by simp; omega)
          have ck : ∃ z, wr.cell? ⟨n + 1, k, none⟩ = some z := ⟨_, HD.out.cell k (by simp; omega)⟩
          have hnx : nextW L = nxt x y u v := by unfold nextW; rw [hL, hx, hy, hu, hv]
          have HNX := hidden hnx
          have HL := hidden hL
          clear hnx hx hy hu hv hL
          obtain ⟨z, cz⟩ := ck
          go_upto_region 11 with fail
          go_region
          go_upto_region 12 with fail
          have b0 : (0 : Int) ≤ (k : Int) := by omega
          have b1 : (k : Int) < 64 := by omega
          have b7 : (0 : Int) ≤ (k : Int) - 7 := by omega
          have d7 : (k : Int) - 7 < 64 := by omega
          have b16 : (0 : Int) ≤ (k : Int) - 16 := by omega
          have d16 : (k : Int) - 16 < 64 := by omega
          have w7 : IntKind.i64.wrap ((k : Int) - 7) = (k : Int) - 7 := wraps_i64 _ (by omega) (by omega)
          have w16 : IntKind.i64.wrap ((k : Int) - 16) = (k : Int) - 16 := wraps_i64 _ (by omega) (by omega)
          have q7 : ¬ k - 7 = k := by omega
          have q16 : ¬ k - 16 = k := by omega
          have q0 : ¬ k = 0 := by omega
          have s7 : (7 : Int) ≤ (k : Int) := by omega
          have s16 : (16 : Int) ≤ (k : Int) := by omega
          have t7 : (k : Int) < 71 := by omega
          have t16 : (k : Int) < 80 := by omega
          have n7 : ((k : Int) - 7).toNat = k - 7 := by omega
          have n16 : ((k : Int) - 16).toNat = k - 16 := by omega
          have HKZ := hidden (fun z : Value => keep_two (z := z) cu cv q7 q16)
          go_region_held3 (fun w' => w'.cell? ⟨n + 1, k - 7, none⟩ = some (.int .u32 u) ∧ w'.cell? ⟨n + 1, k - 16, none⟩ = some (.int .u32 v)) (first | exact HKZ.out _ | go_keep)
            (first
            | (go_at_call 79; (with_reducible refine (right_any x 17 (by omega) (by omega) _).mono ?_); rintro e wA ⟨rfl, rfl⟩)
            | (go_at_call 79; (with_reducible refine (right_any x 19 (by omega) (by omega) _).mono ?_); rintro e wA ⟨rfl, rfl⟩)
            | (go_at_call 79; (with_reducible refine (right_any y 7 (by omega) (by omega) _).mono ?_); rintro e wA ⟨rfl, rfl⟩)
            | (go_at_call 79; (with_reducible refine (right_any y 18 (by omega) (by omega) _).mono ?_); rintro e wA ⟨rfl, rfl⟩)
            | fail)
          all_goals
            go_wp2
            go_roundw
            case rel =>
              refine ⟨k + 1, L ++ [nxt x y u v], by omega, by omega, by go_num, by simp; exact HL.out, ?_, (HR.out.other _ _ (by simp)).drew.drew, ?_, ((HB.out.setCell (by simp) _).drew).drew⟩
              · have := HS.eq
                rw [show 64 - k = (64 - (k + 1)) + 1 by omega, sched, HNX.out] at this
                exact ⟨this⟩
              · exact (HD.out.fill HL.out (by omega) (nxt_mod x y u v)).drew.drew
            case measure => simp [intOf]; omega
        · have hD : Wd wr (n + 1) 93 S := by
            have e : k = 64 := by omega
            have h1 := HS.eq
            have h2 := HD.out
            rw [e] at h1 h2
            simp only [Nat.sub_self, sched] at h1
            subst h1
            simpa using h2
          have hi : (Tryd.prog.info? 93).map (·.size) = some ((S.map (Value.int .u32)).toArray).size := by
            rw [info64]
            simp [HSL.eq]
          have HI := hidden hi
          have HD4 := hidden hD
          have hR4 := HR.out.row S
          have HR4 := hidden hR4
          have HB4 := hidden (below_setRow HB.out (Nat.le_refl _) (S.map (Value.int .u32)).toArray)
          have ho : ((List.replicate 64 (0 : Int)).map (Value.int .u32)).toArray.size = ((S.map (Value.int .u32)).toArray).size := by simp [HSL.eq]
          have HO := hidden ho
          have HONE := hidden (one32 S)
          clear hD hi hR4 ho HD
          go_wp2_with (first
            | (refine wpList_load_row rfl 93 _ rfl (n + 1) rfl 93 _ (0, 0) _ HD4.out.heap Tryd.underlying93 rfl HI.out ?_)
            | (refine wpList_store_row rfl 93 _ _ rfl n (S.map (Value.int .u32)).toArray rfl rfl 93 _ HR.out.heap HI.out HO.out HONE.out ?_)
            | fail)
          refine bodyPost_ret (results_cell_row rfl _ _ n 93 _ _ _ rfl HR4.out.heap Tryd.underlying93 rfl HI.out) rfl ?_
          exact ⟨rfl, by rw [HN.out]; exact HB4.out⟩
end Go.Proofs.YtgpigjoonhghhaaDoor
