/-
  The document's Block: a block hashed.
-/
import Derived.Test.YtgpigjoonhghhaaDoorQDRShaBlock
import Derived.Test.YtgpigjoonhghhaaDoorQDShaSum
import Derived.Deep.RegionHeld3
namespace Go.Proofs.YtgpigjoonhghhaaDoor
open Go.RowKit
set_option linter.unusedVariables false
def flat (T : H8) (k x : Int) : H8 :=
  ⟨(T.h + bits .xor .u32 (bits .xor .u32 (rotr T.e 6) (rotr T.e 11)) (rotr T.e 25) + bits .xor .u32 (bits .and .u32 T.e T.f) (bits .and .u32 (bits .xor .u32 4294967295 T.e) T.g) + k + x + (bits .xor .u32 (bits .xor .u32 (rotr T.a 2) (rotr T.a 13)) (rotr T.a 22) + bits .xor .u32 (bits .xor .u32 (bits .and .u32 T.a T.b) (bits .and .u32 T.a T.c)) (bits .and .u32 T.b T.c))) % 4294967296,
   T.a, T.b, T.c,
   (T.d + (T.h + bits .xor .u32 (bits .xor .u32 (rotr T.e 6) (rotr T.e 11)) (rotr T.e 25) + bits .xor .u32 (bits .and .u32 T.e T.f) (bits .and .u32 (bits .xor .u32 4294967295 T.e) T.g) + k + x)) % 4294967296,
   T.e, T.f, T.g⟩
theorem flat_eq (T : H8) (k x : Int) : flat T k x = step T k x := by
  have h1 : (flat T k x).a = (step T k x).a := by
    simp only [flat, step, rX, rY, sig]
    omega
  have h2 : (flat T k x).e = (step T k x).e := by
    simp only [flat, step, rX, sig]
    omega
  show (⟨(flat T k x).a, T.a, T.b, T.c, (flat T k x).e, T.e, T.f, T.g⟩ : H8) = _
  rw [h1, h2]
  rfl
theorem add8_comm (s t : H8) : add8 s t = add8 t s := by
  unfold add8
  simp only [Int.add_comm]
theorem Wd.othr8 {w : World} {g k : Nat} {t : TypeId} {l : List Int} (h : Wd w g t l) (hn : ¬ g = k) (r : H8) :
    Wd ((((((((w.setCell ⟨k, 0, none⟩ (.int .u32 r.a)).setCell ⟨k, 1, none⟩ (.int .u32 r.b)).setCell ⟨k, 2, none⟩ (.int .u32 r.c)).setCell ⟨k, 3, none⟩ (.int .u32 r.d)).setCell ⟨k, 4, none⟩ (.int .u32 r.e)).setCell ⟨k, 5, none⟩ (.int .u32 r.f)).setCell ⟨k, 6, none⟩ (.int .u32 r.g)).setCell ⟨k, 7, none⟩ (.int .u32 r.h)) g t l :=
  (((((((h.other ⟨k, 0, none⟩ _ hn).other ⟨k, 1, none⟩ _ hn).other ⟨k, 2, none⟩ _ hn).other ⟨k, 3, none⟩ _ hn).other ⟨k, 4, none⟩ _ hn).other ⟨k, 5, none⟩ _ hn).other ⟨k, 6, none⟩ _ hn).other ⟨k, 7, none⟩ _ hn
theorem below8 {w0 w : World} {B k : Nat} (h : Below B w0 w) (hk : B ≤ k) (r : H8) :
    Below B w0 ((((((((w.setCell ⟨k, 0, none⟩ (.int .u32 r.a)).setCell ⟨k, 1, none⟩ (.int .u32 r.b)).setCell ⟨k, 2, none⟩ (.int .u32 r.c)).setCell ⟨k, 3, none⟩ (.int .u32 r.d)).setCell ⟨k, 4, none⟩ (.int .u32 r.e)).setCell ⟨k, 5, none⟩ (.int .u32 r.f)).setCell ⟨k, 6, none⟩ (.int .u32 r.g)).setCell ⟨k, 7, none⟩ (.int .u32 r.h)) :=
  (((((((h.setCell (p := ⟨k, 0, none⟩) hk _).setCell (p := ⟨k, 1, none⟩) hk _).setCell (p := ⟨k, 2, none⟩) hk _).setCell (p := ⟨k, 3, none⟩) hk _).setCell (p := ⟨k, 4, none⟩) hk _).setCell (p := ⟨k, 5, none⟩) hk _).setCell (p := ⟨k, 6, none⟩) hk _).setCell (p := ⟨k, 7, none⟩) hk _
set_option maxHeartbeats 3200000 in
set_option maxRecDepth 100000 in
theorem rblock_any (s : H8) (p : Option Addr) (c : Nat) (xs : List Int) (w : World) (h : Byt w p 64 c xs) :
    Calls Tryd.prog 63 #[(.agg #[.int .u32 s.a, .int .u32 s.b, .int .u32 s.c, .int .u32 s.d, .int .u32 s.e, .int .u32 s.f, .int .u32 s.g, .int .u32 s.h]), .slice p 64 c] w fun e w' => e = .returned (.tuple #[(.agg #[.int .u32 (blockS s xs).a, .int .u32 (blockS s xs).b, .int .u32 (blockS s xs).c, .int .u32 (blockS s xs).d, .int .u32 (blockS s xs).e, .int .u32 (blockS s xs).f, .int .u32 (blockS s xs).g, .int .u32 (blockS s xs).h]), .bool true]) ∧ Below w.heap.size w w' := by
  obtain ⟨R, hR⟩ : ∃ R, blockS s xs = R := ⟨_, rfl⟩
  obtain ⟨W0, hW0⟩ : ∃ W0, words xs 16 = W0 := ⟨_, rfl⟩
  obtain ⟨S, hS⟩ : ∃ S, sched 48 W0 = S := ⟨_, rfl⟩
  have hSl : S.length = 64 := by rw [← hS, sched_len, ← hW0, words_len]
  obtain ⟨E, hE⟩ : ∃ E, rounds kTab S s = E := ⟨_, rfl⟩
  have hRS : add8 E s = R := by rw [← hR, add8_comm, ← hE, ← hS, ← hW0]; rfl
  rw [hR]
  have HS0 := Is.mk hS
  have HW0 := Is.mk hW0
  have HE := Is.mk hE
  have HRS := Is.mk hRS
  have HSL := Is.mk hSl
  have HLEN := Is.mk h.len
  have HX := hidden h
  clear hR hS hSl hRS h hE hW0
  go_enter Tryd.func63, Tryd.ntmps63
  go_upto_region 4 with fail
  generalize hw1 : ((w.alloc (.cells _ 81)).alloc (.cells _ 81)).alloc (.cells _ 93) = w1
  have hs : Wd w1 w.heap.size 81 s.list := by
    rw [← hw1]
    exact ((Wd.new w _ s.list _ rfl).alloc _).alloc _
  have hd : Wd w1 (w.heap.size + 1) 81 (List.replicate 8 0) := by
    rw [← hw1]
    have := Wd.new (w.alloc (.cells (s.list.map (Value.int .u32)).toArray 81)) 81 (List.replicate 8 0) _ rfl
    rw [World.size_alloc] at this
    exact this.alloc _
  have hq : Wd w1 (w.heap.size + 2) 93 (List.replicate 64 0) := by
    rw [← hw1]
    have := Wd.new ((w.alloc (.cells (s.list.map (Value.int .u32)).toArray 81)).alloc (.cells ((List.replicate 8 0).map (Value.int .u32)).toArray 81)) 93 (List.replicate 64 0) _ rfl
    rw [World.size_alloc, World.size_alloc] at this
    exact this
  have hb : Below w.heap.size w w1 := by
    rw [← hw1]
    exact (((Below.refl _ w).alloc (Nat.le_refl _) _).alloc (by simp) _).alloc (by simp; omega) _
  clear hw1
  obtain ⟨n, hn⟩ : ∃ n, w.heap.size = n := ⟨_, rfl⟩
  simp only [hn] at hs hd hq hb ⊢
  have HN := hidden hn
  have HS1 := hidden hs
  have HD1 := hidden hd
  have HQ1 := hidden hq
  have HB1 := hidden hb
  clear hs hd hq hb hn
  go_wp2
  go_loopw [7] (fun i wr => ∃ (t : Nat) (L : List Int), t ≤ 64 ∧ i = .int .i64 t ∧ Is L.length t ∧ (t ≤ 16 ∧ Is L (words xs t) ∨ 16 ≤ t ∧ Is (sched (64 - t) L) S) ∧ Wd wr n 81 s.list ∧ Wd wr (n + 1) 81 (List.replicate 8 0) ∧ Wd wr (n + 2) 93 (L ++ List.replicate (64 - t) 0) ∧ Below n w wr) (fun i _ => 64 - (intOf i).toNat)
  case atStart => exact ⟨0, [], by omega, rfl, ⟨rfl⟩, Or.inl ⟨by omega, ⟨rfl⟩⟩, HS1.out, HD1.out, HQ1.out, HB1.out⟩
  case round =>
    obtain ⟨t, L, ht, rfl, HL, hcase, hs, hd, hq, hb⟩ := hrel
    have HS := hidden hs
    have HD := hidden hd
    have HQ := hidden hq
    have HB := hidden hb
    have hX : Byt wr p 64 c xs := HX.out.below (by rw [HN.out]; exact hb)
    have HXr := hidden hX
    have hqlt := hq.lt
    have hfr := hq.fr t
    clear hs hd hq hb HS1 HD1 HQ1 HB1
    by_cases h64 : t < 64
    · by_cases h16 : t < 16
      · have hLw : L = words xs t := by
          rcases hcase with ⟨_, h⟩ | ⟨h, _⟩
          · exact h.eq
          · omega
        have HLW := Is.mk hLw
        have hl4 : ((xs.drop (4 * t)).take 4).length = 4 := by have := HLEN.eq; simp; omega
        have hv := val_bd ((xs.drop (4 * t)).take 4) (rng_take (rng_drop hX.rng _) _)
        rw [hl4] at hv
        have hc : wr.cell? ⟨n + 2, t, none⟩ = some (.int .u32 ((L ++ List.replicate (64 - t) 0).getD t 0)) := HQ.out.cell t (by have := HL.eq; simp; omega)
        obtain ⟨v, hve⟩ : ∃ v, val ((xs.drop (4 * t)).take 4) = v := ⟨_, rfl⟩
        have e4 : ((4 * t : Nat) : Int) = 4 * (t : Int) := by omega
        have HC : Hid (Calls Tryd.prog 69 #[.slice p 64 c, .int .i64 (4 * (t : Int)), .int .i64 4] wr fun e w' => e = .returned (.tuple #[.int .u64 v, .bool true]) ∧ wr = w') := by
          have := rnumber_yes p 64 c xs wr HXr.out (4 * t) 4 (by omega) (by omega) (by omega)
          rw [hve, e4] at this
          exact this
        rw [hve] at hv
        have HVE := Is.mk hve
        have hmod : v % 4294967296 = v := by omega
        clear e4 hl4 hX hLw hcase hve
        go_wp2_with (go_at_call 69; (with_reducible refine (HC.out).mono ?_); rintro e w' ⟨rfl, rfl⟩)
        go_roundw
        case rel =>
          refine ⟨t + 1, L ++ [v], by omega, by go_num, ⟨by simp [HL.eq]⟩, Or.inl ⟨by omega, ⟨by rw [words, HLW.eq, HVE.eq]⟩⟩, HS.out.other ⟨n + 2, t, none⟩ _ (by simp), HD.out.other ⟨n + 2, t, none⟩ _ (by simp), ?_, HB.out.setCell (p := ⟨n + 2, t, none⟩) (by simp) _⟩
          exact HQ.out.fill HL.eq h64 rfl
        case measure => simp [intOf]; omega
      · have hsc : Is (sched (64 - t) L) S := by
          rcases hcase with ⟨h, h'⟩ | ⟨_, h⟩
          · have e : t = 16 := by omega
            rw [h'.eq, e, HW0.eq]
            exact HS0
          · exact h
        obtain ⟨x, hx⟩ : ∃ x, L.getD (t - 2) 0 = x := ⟨_, rfl⟩
        obtain ⟨y, hy⟩ : ∃ y, L.getD (t - 15) 0 = y := ⟨_, rfl⟩
        obtain ⟨u, hu⟩ : ∃ u, L.getD (t - 7) 0 = u := ⟨_, rfl⟩
        obtain ⟨v, hv⟩ : ∃ v, L.getD (t - 16) 0 = v := ⟨_, rfl⟩
        have hL := HL.eq
        have cx : wr.cell? ⟨n + 2, t - 2, none⟩ = some (.int .u32 x) := by rw [← hx, ← getD_fill L (List.replicate (64 - t) 0) _ (by omega)]; exact HQ.out.cell _ (by simp; omega)
        have cy : wr.cell? ⟨n + 2, t - 15, none⟩ = some (.int .u32 y) := by rw [← hy, ← getD_fill L (List.replicate (64 - t) 0) _ (by omega)]; exact HQ.out.cell _ (by simp; omega)
        have cu : wr.cell? ⟨n + 2, t - 7, none⟩ = some (.int .u32 u) := by rw [← hu, ← getD_fill L (List.replicate (64 - t) 0) _ (by omega)]; exact HQ.out.cell _ (by simp; omega)
        have cv : wr.cell? ⟨n + 2, t - 16, none⟩ = some (.int .u32 v) := by rw [← hv, ← getD_fill L (List.replicate (64 - t) 0) _ (by omega)]; exact HQ.out.cell _ (by simp; omega)
        have ck : ∃ z, wr.cell? ⟨n + 2, t, none⟩ = some z := ⟨_, HQ.out.cell t (by simp; omega)⟩
        have hnx : nextW L = nxt x y u v := by unfold nextW; rw [hL, hx, hy, hu, hv]
        have HNX := hidden hnx
        clear hnx hx hy hu hv hL hcase hX
        obtain ⟨z, cz⟩ := ck
        go_upto_region 10 with fail
        go_region
        go_upto_region 11 with fail
        have b0 : (0 : Int) ≤ (t : Int) := by omega
        have b1 : (t : Int) < 64 := by omega
        have b7 : (0 : Int) ≤ (t : Int) - 7 := by omega
        have d7 : (t : Int) - 7 < 64 := by omega
        have b16 : (0 : Int) ≤ (t : Int) - 16 := by omega
        have d16 : (t : Int) - 16 < 64 := by omega
        have w7 : IntKind.i64.wrap ((t : Int) - 7) = (t : Int) - 7 := wraps_i64 _ (by omega) (by omega)
        have w16 : IntKind.i64.wrap ((t : Int) - 16) = (t : Int) - 16 := wraps_i64 _ (by omega) (by omega)
        have q7 : ¬ t - 7 = t := by omega
        have q16 : ¬ t - 16 = t := by omega
        have q0 : ¬ t = 0 := by omega
        have s7 : (7 : Int) ≤ (t : Int) := by omega
        have s16 : (16 : Int) ≤ (t : Int) := by omega
        have t7 : (t : Int) < 71 := by omega
        have t16 : (t : Int) < 80 := by omega
        have n7 : ((t : Int) - 7).toNat = t - 7 := by omega
        have n16 : ((t : Int) - 16).toNat = t - 16 := by omega
        have HKZ := hidden (fun z : Value => keep_two (z := z) cu cv q7 q16)
        go_region_held3 (fun w' => w'.cell? ⟨n + 2, t - 7, none⟩ = some (.int .u32 u) ∧ w'.cell? ⟨n + 2, t - 16, none⟩ = some (.int .u32 v)) (first | exact HKZ.out _ | go_keep)
          (first
          | (go_at_call 70; (with_reducible refine (turn_any x 17 (by omega) (by omega) _).mono ?_); rintro e wA ⟨rfl, rfl⟩)
          | (go_at_call 70; (with_reducible refine (turn_any x 19 (by omega) (by omega) _).mono ?_); rintro e wA ⟨rfl, rfl⟩)
          | (go_at_call 70; (with_reducible refine (turn_any y 7 (by omega) (by omega) _).mono ?_); rintro e wA ⟨rfl, rfl⟩)
          | (go_at_call 70; (with_reducible refine (turn_any y 18 (by omega) (by omega) _).mono ?_); rintro e wA ⟨rfl, rfl⟩)
          | fail)
        all_goals
          go_wp2
          go_roundw
          case rel =>
            refine ⟨t + 1, L ++ [nxt x y u v], by omega, by go_num, ⟨by simp [HL.eq]⟩, Or.inr ⟨by omega, ?_⟩, (HS.out.other ⟨n + 2, t, none⟩ _ (by simp)).drew.drew, (HD.out.other ⟨n + 2, t, none⟩ _ (by simp)).drew.drew, ?_, ((HB.out.setCell (p := ⟨n + 2, t, none⟩) (by simp) _).drew).drew⟩
            · have := hsc.eq
              rw [show 64 - t = (64 - (t + 1)) + 1 by omega, sched, HNX.out] at this
              exact ⟨this⟩
            · exact (HQ.out.fill HL.eq h64 (nxt_mod x y u v)).drew.drew
          case measure => simp [intOf]; omega
    · have hLS : L = S := by
        have e : t = 64 := by omega
        rcases hcase with ⟨h, _⟩ | ⟨_, h⟩
        · omega
        · have := h.eq
          rw [e] at this
          simpa [sched] using this
      have hqS : Wd wr (n + 2) 93 S := by
        have e : t = 64 := by omega
        have := HQ.out
        rw [hLS, e] at this
        simpa using this
      have HQ2 := hidden hqS
      have HRC := hidden (fun W => rconst_any W)
      have HI : Hid ((Tryd.prog.info? 93).map (·.size) = some ((kTab.map (Value.int .u32)).toArray).size) := by rw [info64]; rfl
      have hlw := hqS.lt
      clear hcase hLS hqS HQ hX hqlt hfr HXr
      go_wp2_with fail
      go_at_call 71
      refine (HRC.out _).mono ?_
      rintro e w2 ⟨rfl, hb2⟩
      have HS2 := hidden (HS.out.below hb2)
      have HD2 := hidden (HD.out.below hb2)
      have HQ3 := hidden (HQ2.out.below hb2)
      have HB2 := hidden (HB.out.trans (hb2.mono (by omega)))
      have hs2 := hb2.size
      clear hb2 HS HD HQ2 HB
      go_upto_region 13 with (first
        | (refine wpList_store_row rfl 93 _ _ rfl _ (kTab.map (Value.int .u32)).toArray rfl rfl 93 _ (heap_alloc_new _ _) HI.out rfl (one32 _) ?_)
        | fail)
      generalize hw3 : (w2.alloc (.cells _ 93)).setRow w2.heap.size (kTab.map (Value.int .u32)).toArray = w3
      obtain ⟨g, hg⟩ : ∃ g, w2.heap.size = g := ⟨_, rfl⟩
      have hgn : n + 2 < g := by omega
      have hs3 : Wd w3 n 81 s.list := by rw [← hw3]; exact (HS2.out.alloc _).rowOther _ _ (by omega)
      have hd3 : Wd w3 (n + 1) 81 (List.replicate 8 0) := by rw [← hw3]; exact (HD2.out.alloc _).rowOther _ _ (by omega)
      have hq3 : Wd w3 (n + 2) 93 S := by rw [← hw3]; exact (HQ3.out.alloc _).rowOther _ _ (by omega)
      have hk3 : Wd w3 g 93 kTab := by
        rw [← hw3, ← hg]
        exact (Wd.new w2 _ (List.replicate 64 0) _ rfl).row kTab
      have hb3 : Below n w w3 := by
        rw [← hw3]
        exact below_setRow (HB2.out.alloc (by omega) _) (by omega) _
      rw [hg]
      clear hw3 hg hs2 hlw
      have HS3 := hidden hs3
      have HD3 := hidden hd3
      have HQ4 := hidden hq3
      have HK3 := hidden hk3
      have HB3 := hidden hb3
      have hlt3 := hk3.lt
      obtain ⟨c0, c1, c2, c3, c4, c5, c6, c7, fr⟩ := hs3.w8
      clear hs3 hd3 hq3 hk3 hb3 HS2 HD2 HQ3 HB2 fr
      go_upto_region 14 with fail
      generalize hw4 : w3.alloc (.cells _ 81) = w4
      obtain ⟨f, hf⟩ : ∃ f, w3.heap.size = f := ⟨_, rfl⟩
      have hs4 : Wd w4 n 81 s.list := by rw [← hw4]; exact HS3.out.alloc _
      have hd4 : Wd w4 (n + 1) 81 (List.replicate 8 0) := by rw [← hw4]; exact HD3.out.alloc _
      have hq4 : Wd w4 (n + 2) 93 S := by rw [← hw4]; exact HQ4.out.alloc _
      have hk4 : Wd w4 g 93 kTab := by rw [← hw4]; exact HK3.out.alloc _
      have hv4 : Wd w4 f 81 s.list := by rw [← hw4, ← hf]; exact Wd.new w3 _ s.list _ rfl
      have hb4 : Below n w w4 := by rw [← hw4]; exact HB3.out.alloc (by omega) _
      have hfg : g < f := by omega
      rw [hf]
      clear hw4 hf c0 c1 c2 c3 c4 c5 c6 c7 hlt3
      have HS4 := hidden hs4
      have HD4 := hidden hd4
      have HQ5 := hidden hq4
      have HK4 := hidden hk4
      have HV4 := hidden hv4
      have HB4 := hidden hb4
      clear hs4 hd4 hq4 hk4 hv4 hb4 HS3 HD3 HQ4 HK3 HB3
      go_wp2
      go_loopw [14] (fun i wr => ∃ (j : Nat) (T : H8), j ≤ 64 ∧ i = .int .i64 j ∧ Is (rounds (kTab.drop j) (S.drop j) T) E ∧ Wd wr n 81 s.list ∧ Wd wr (n + 1) 81 (List.replicate 8 0) ∧ Wd wr (n + 2) 93 S ∧ Wd wr g 93 kTab ∧ Wd wr f 81 T.list ∧ Below n w wr) (fun i _ => 64 - (intOf i).toNat)
      case atStart => exact ⟨0, s, by omega, rfl, HE, HS4.out, HD4.out, HQ5.out, HK4.out, HV4.out, HB4.out⟩
      case round =>
        obtain ⟨j, T, hj, rfl, HR, hs, hd, hq, hk, hv, hb⟩ := hrel
        have HS := hidden hs
        have HD := hidden hd
        have HQ := hidden hq
        have HK := hidden hk
        have HV := hidden hv
        have HB := hidden hb
        by_cases hlt : j < 64
        · have hst := rounds_step kTab S j T (by rw [kTab_len]; exact hlt) (by rw [HSL.eq]; exact hlt)
          have HST := Is.mk hst
          have ck : wr.cell? ⟨g, j, none⟩ = some (.int .u32 (kTab.getD j 0)) := hk.cell j (by rw [kTab_len]; exact hlt)
          have cw : wr.cell? ⟨n + 2, j, none⟩ = some (.int .u32 (S.getD j 0)) := hq.cell j (by rw [HSL.eq]; exact hlt)
          generalize kTab.getD j 0 = k at ck HST
          generalize S.getD j 0 = x at cw HST
          obtain ⟨c0, c1, c2, c3, c4, c5, c6, c7, fr⟩ := hv.w8
          have f0 := fr 0
          have f1 := fr 1
          have f2 := fr 2
          have f3 := fr 3
          have f4 := fr 4
          have f5 := fr 5
          have f6 := fr 6
          have f7 := fr 7
          have b0 : (0 : Int) ≤ (j : Int) := by omega
          have b1 : (j : Int) < 64 := by omega
          clear hst hs hd hq hk hv hb fr HS4 HD4 HQ5 HK4 HV4 HB4
          go_upto_region 17 with fail
          go_region_held3 (fun w' => w'.cell? ⟨f, 0, none⟩ = some (.int .u32 T.a) ∧ w'.cell? ⟨f, 1, none⟩ = some (.int .u32 T.b) ∧ w'.cell? ⟨f, 2, none⟩ = some (.int .u32 T.c) ∧ w'.cell? ⟨f, 4, none⟩ = some (.int .u32 T.e) ∧ w'.cell? ⟨f, 5, none⟩ = some (.int .u32 T.f) ∧ w'.cell? ⟨f, 6, none⟩ = some (.int .u32 T.g)) (go_keep) (first | fail)
          go_upto_region 18 with fail
          go_region_held3 (fun w' => w'.cell? ⟨f, 7, none⟩ = some (.int .u32 T.h) ∧ w'.cell? ⟨g, j, none⟩ = some (.int .u32 k) ∧ w'.cell? ⟨n + 2, j, none⟩ = some (.int .u32 x)) (go_keep)
            (first
            | (go_at_call 70; (with_reducible refine (turn_any T.e 6 (by omega) (by omega) _).mono ?_); rintro e wA ⟨rfl, rfl⟩)
            | (go_at_call 70; (with_reducible refine (turn_any T.e 11 (by omega) (by omega) _).mono ?_); rintro e wA ⟨rfl, rfl⟩)
            | (go_at_call 70; (with_reducible refine (turn_any T.e 25 (by omega) (by omega) _).mono ?_); rintro e wA ⟨rfl, rfl⟩)
            | fail)
          all_goals
            go_wp2_with (first
              | (go_at_call 70; (with_reducible refine (turn_any T.a 2 (by omega) (by omega) _).mono ?_); rintro e wA ⟨rfl, rfl⟩)
              | (go_at_call 70; (with_reducible refine (turn_any T.a 13 (by omega) (by omega) _).mono ?_); rintro e wA ⟨rfl, rfl⟩)
              | (go_at_call 70; (with_reducible refine (turn_any T.a 22 (by omega) (by omega) _).mono ?_); rintro e wA ⟨rfl, rfl⟩)
              | fail)
            go_roundw
            case rel =>
              exact ⟨j + 1, flat T k x, by omega, by go_num, ⟨by rw [flat_eq]; exact HST.eq.symm.trans HR.eq⟩, (HS.out.othr8 (show ¬ n = f by omega) (flat T k x)).drew.drew, (HD.out.othr8 (show ¬ n + 1 = f by omega) (flat T k x)).drew.drew, (HQ.out.othr8 (show ¬ n + 2 = f by omega) (flat T k x)).drew.drew, (HK.out.othr8 (show ¬ g = f by omega) (flat T k x)).drew.drew, (HV.out.put8 (flat T k x)).drew.drew, (below8 HB.out (show n ≤ f by omega) (flat T k x)).drew.drew⟩
            case measure => simp [intOf]; omega
        · have hT : T = E := by
            have h1 := HR.eq
            have e : j = 64 := by omega
            rw [e, List.drop_eq_nil_of_le (by rw [kTab_len]; omega)] at h1
            simpa [rounds] using h1
          have HAT := hidden (show AddTo E.list s.list E.list 0 from ⟨rfl, fun i hi => by omega, fun i _ => rfl⟩)
          rw [hT] at hv
          have HV2 := hidden hv
          clear hT hs hd hq hk hv hb HR HV HQ HK HS4 HD4 HQ5 HK4 HV4 HB4 HE
          go_wp2
          go_loopw [23] (fun i wr => ∃ (j : Nat) (M : List Int), j ≤ 8 ∧ i = .int .i64 j ∧ AddTo E.list s.list M j ∧ Wd wr f 81 M ∧ Wd wr n 81 s.list ∧ Wd wr (n + 1) 81 (List.replicate 8 0) ∧ Below n w wr) (fun i _ => 8 - (intOf i).toNat)
          case atStart => exact ⟨0, _, by omega, rfl, HAT.out, HV2.out, HS.out, HD.out, HB.out⟩
          case round =>
            obtain ⟨j, M, hj, rfl, ha, hv, hs, hd, hb⟩ := hrel
            have HA := hidden ha
            have HV := hidden hv
            have HS2 := hidden hs
            have HD2 := hidden hd
            have HB2 := hidden hb
            by_cases hlt : j < 8
            · have cm : wr.cell? ⟨f, j, none⟩ = some (.int .u32 (E.list.getD j 0)) := by rw [hv.cell j (by rw [ha.len]; exact hlt), ha.hi j (Nat.le_refl _)]
              have cs : wr.cell? ⟨n, j, none⟩ = some (.int .u32 (s.list.getD j 0)) := hs.cell j hlt
              have hfr := hv.fr j
              have HNX := hidden (ha.next (show j < E.list.length from hlt))
              generalize E.list.getD j 0 = u at cm HNX
              generalize s.list.getD j 0 = v at cs HNX
              have b0 : (0 : Int) ≤ (j : Int) := by omega
              have b1 : (j : Int) < 8 := by omega
              clear ha hv hs hd hb HAT HV2 HS HD HB
              go_upto_region 24 with fail
              go_region
              all_goals
                go_wp2
                go_roundw
                case rel => exact ⟨j + 1, _, by omega, by go_num, HNX.out, (HV.out.set j _).drew, (HS2.out.other ⟨f, j, none⟩ _ (show n ≠ f by omega)).drew, (HD2.out.other ⟨f, j, none⟩ _ (show n + 1 ≠ f by omega)).drew, (HB2.out.setCell (p := ⟨f, j, none⟩) (show n ≤ f by omega) _).drew⟩
                case measure => simp [intOf]; omega
            · have hM : M = R.list := by
                have e : j = 8 := by omega
                rw [e] at ha
                rw [ha.all, HRS.eq]
              rw [hM] at hv
              have HL : Hid (wr.heap[f]? = some (.cells #[.int .u32 R.a, .int .u32 R.b, .int .u32 R.c, .int .u32 R.d, .int .u32 R.e, .int .u32 R.f, .int .u32 R.g, .int .u32 R.h] 81 (0, 0))) := hv.heap
              have HR4 := hidden (hd.row R.list)
              have HB4 := hidden (below_setRow hb (by omega : n ≤ n + 1) (R.list.map (Value.int .u32)).toArray)
              have HONE : Hid ((#[.int .u32 R.a, .int .u32 R.b, .int .u32 R.c, .int .u32 R.d, .int .u32 R.e, .int .u32 R.f, .int .u32 R.g, .int .u32 R.h] : Array Value).all (·.oneCell') = true) := one32 R.list
              clear hM ha hv hs hd hb HA HV HS2 HB2
              go_wp2_with (first
                | (refine wpList_load_row rfl 81 _ rfl f rfl 81 _ (0, 0) _ HL.out Tryd.underlying81 rfl info8 ?_)
                | (refine wpList_store_row rfl 81 _ _ rfl (n + 1) #[.int .u32 R.a, .int .u32 R.b, .int .u32 R.c, .int .u32 R.d, .int .u32 R.e, .int .u32 R.f, .int .u32 R.g, .int .u32 R.h] rfl rfl 81 _ HD2.out.heap info8 rfl HONE.out ?_)
                | fail)
              refine bodyPost_ret (results_row_tmp rfl _ _ (n + 1) 81 _ _ _ _ rfl rfl HR4.out.heap Tryd.underlying81 rfl info8) rfl ?_
              exact ⟨rfl, by rw [HN.out]; exact HB4.out⟩
end Go.Proofs.YtgpigjoonhghhaaDoor
