/-
  Sign, schnorr's and the document's.
-/
import Derived.Test.YtkniifopfgeopaaDoorHSchFns
import Derived.Test.YtkniifopfgeopaaDoorHZ1
namespace Go.Proofs.YtkniifopfgeopaaDoor
open Go.RowKit
set_option linter.unusedVariables false

theorem dblq_odd (o x B z : Nat) (h : B % 2 = 1) (hz : (o + x * B) % gq = z) : ((o + x) % gq + 2 * x % gq * (B / 2)) % gq = z := by
  rw [← hz]
  have e : B = 2 * (B / 2) + 1 := by omega
  have e2 : x * B = 2 * x * (B / 2) + x := by
    conv => lhs; rw [e]
    rw [Nat.mul_add, Nat.mul_one, Nat.mul_left_comm, Nat.mul_assoc]
  rw [e2, Nat.mod_add_mod, Nat.add_mod (o + x), Nat.mod_mul_mod, ← Nat.add_mod]
  congr 1
  omega
theorem dblq_even (o x B z : Nat) (h : B % 2 = 0) (hz : (o + x * B) % gq = z) : (o + 2 * x % gq * (B / 2)) % gq = z := by
  rw [← hz]
  have e : B = 2 * (B / 2) := by omega
  have e2 : x * B = 2 * x * (B / 2) := by
    conv => lhs; rw [e]
    rw [Nat.mul_left_comm, Nat.mul_assoc]
  rw [e2, Nat.add_mod, Nat.mod_mul_mod, ← Nat.add_mod]

set_option maxHeartbeats 1600000 in
theorem mulq_any (a b : Nat) (ha : a < 18446744073709551616) (hb : b < 18446744073709551616) (w : World) :
    Calls Tryd.prog 66 #[.int .u64 a, .int .u64 b] w fun e w' => e = .returned (.int .u64 ((a * b % gq : Nat) : Int)) ∧ Below w.heap.size w w' := by
  go_enter Tryd.func66, Tryd.ntmps66
  obtain ⟨a0, ha0⟩ : ∃ x, a % 2305843009213688669 = x := ⟨_, rfl⟩
  obtain ⟨b0, hb0⟩ : ∃ x, b % 2305843009213688669 = x := ⟨_, rfl⟩
  have ea : (a : Int) % 2305843009213688669 = (a0 : Int) := by omega
  have eb : (b : Int) % 2305843009213688669 = (b0 : Int) := by omega
  have hb1 : b0 < 2305843009213693952 := by omega
  have ha1 : a0 < 2305843009213688669 := by omega
  have HG : Is ((0 + a0 * b0) % gq) (a * b % gq) := ⟨by rw [Nat.zero_add, ← ha0, ← hb0, show 2305843009213688669 = gq from rfl, ← Nat.mul_mod]⟩
  generalize a * b % gq = g at *
  clear ha0 hb0
  go_wp2
  go_loopw [5, 0, 1] (fun o x b wr => ∃ (o' x' B : Nat), o = .int .u64 o' ∧ x = .int .u64 x' ∧ b = .int .u64 B ∧ o' < 2305843009213688669 ∧ x' < 2305843009213688669 ∧ B < 2305843009213693952 ∧ Is ((o' + x' * B) % gq) g ∧ w = wr) (fun _ _ b _ => (intOf b).toNat)
  case atStart => exact ⟨0, a0, b0, rfl, by rw [ea], by rw [eb], by omega, ha1, hb1, HG, (by first | rfl | trivial)⟩
  case round =>
    obtain ⟨o, x, B, rfl, rfl, rfl, ho, hx, hB1, HI, rfl⟩ := hrel
    have hHI : (o + x * B) % gq = g := HI.eq
    have e2 : (2 * (x : Int)) % 2305843009213688669 = ((2 * x % gq : Nat) : Int) := by unfold gq; omega
    have e3 : (((o : Int) + (x : Int)) % 2305843009213688669) = (((o + x) % gq : Nat) : Int) := by unfold gq; omega
    have l2 : 2 * x % gq < 2305843009213688669 := Nat.mod_lt _ gq_pos
    have l3 : (o + x) % gq < 2305843009213688669 := Nat.mod_lt _ gq_pos
    have e4 : (B : Int) / 2 = ((B / 2 : Nat) : Int) := by omega
    have l4 : B / 2 < 2305843009213693952 := by omega
    by_cases hlt : 0 < B
    · have hlm : B / 2 < B := by omega
      by_cases hodd : B % 2 = 1
      · have HN := Is.mk (dblq_odd o x B g hodd hHI)
        have hbit : bits .and .u64 (B : Int) 1 = 1 := by rw [and_oneN B (by omega)]; omega
        have HM := hidden hlm
        generalize 2 * x % gq = x2 at *
        generalize (o + x) % gq = o2 at *
        generalize B / 2 = B2 at *
        clear hHI HI hodd hlm
        go_wp2
        go_roundw
        case rel => exact ⟨o2, x2, B2, (by first | rfl | rw [e3]), (by first | rfl | rw [e2]), (by first | rfl | rw [e4]), l3, l2, l4, HN, (by first | rfl | trivial)⟩
        case measure => have := HM.out; simp [intOf]; omega
      · have HN := Is.mk (dblq_even o x B g (by omega) hHI)
        have hbit : bits .and .u64 (B : Int) 1 = 0 := by rw [and_oneN B (by omega)]; omega
        have HM := hidden hlm
        generalize 2 * x % gq = x2 at *
        generalize B / 2 = B2 at *
        clear hHI HI hodd hlm
        go_wp2
        go_roundw
        case rel => exact ⟨o, x2, B2, rfl, (by first | rfl | rw [e2]), (by first | rfl | rw [e4]), ho, l2, l4, HN, (by first | rfl | trivial)⟩
        case measure => have := HM.out; simp [intOf]; omega
    · have hB0 : B = 0 := by omega
      have hog : o = g := by rw [← hHI, hB0, Nat.mul_zero, Nat.add_zero]; exact (Nat.mod_eq_of_lt ho).symm
      subst hog
      clear hHI HI HG e2 e3 e4
      subst hB0
      go_wp2
      go_ret
      exact ⟨rfl, Below.refl _ _⟩

def pbL (e s : Nat) (j : Nat) : List Int := if j = 0 then [] else if j = 1 then gbytes e else gbytes e ++ gbytes s
set_option maxHeartbeats 1600000 in
set_option maxRecDepth 100000 in
theorem pbytes_any (e s : Nat) (he : e < 18446744073709551616) (hs : s < 18446744073709551616) (w : World) :
    Calls Tryd.prog 54 #[.agg #[.int .u64 e, .int .u64 s]] w (ToG (gbytes e ++ gbytes s) w) := by
  have HP1 := hidden (fun (q : Option Addr) (d : Nat) W (hW : Byt W q 0 d []) => put_yes q 0 d [] W hW (by omega) (e : Int) (by omega) 8 (by omega) (by omega))
  rw [List.nil_append, show be 8 (e : Int) = gbytes e from rfl, show ((8 : Nat) : Int) = 8 from rfl] at HP1
  have HP2 := hidden (fun (q : Option Addr) (d : Nat) W (hW : Byt W q 8 d (gbytes e)) => put_yes q 8 d (gbytes e) W hW (by omega) (s : Int) (by omega) 8 (by omega) (by omega))
  rw [show be 8 (s : Int) = gbytes s from rfl, show ((8 : Nat) : Int) = 8 from rfl] at HP2
  have HL1 := Is.mk (gbytes_len e)
  have HR1 := hidden (gbytes_rng e)
  have HR2 := hidden (rng_append (gbytes_rng e) (gbytes_rng s))
  have H0 : Is (pbL e s 0) [] := ⟨rfl⟩
  have H1 : Is (pbL e s 1) (gbytes e) := ⟨rfl⟩
  have H2 : Is (pbL e s 2) (gbytes e ++ gbytes s) := ⟨rfl⟩
  generalize gbytes e ++ gbytes s = R at *
  generalize gbytes e = A at *
  generalize pbL e s = L at *
  clear he hs
  obtain ⟨i0, hi0, hz1⟩ : ∃ i, Tryd.prog.info? 26 = some i ∧ i.size = 1 := ⟨_, rfl, rfl⟩
  have HIX := hidden (fun (j : Nat) (hj : j < 2) (w' : World) => run_indexN (k := .u64) (P := Tryd.prog) Tryd.underlying81 Tryd.underlying26 hi0 hz1 [(e : Int), (s : Int)] rfl j hj w')
  clear hi0 hz1
  go_enter Tryd.func54, Tryd.ntmps54
  have HB0 := hidden ((Below.refl w.heap.size w).alloc (Nat.le_refl _) (.cells #[.int .u64 e, .int .u64 s] 81))
  have HO0 := hidden (Own.nil (w.alloc (.cells #[.int .u64 e, .int .u64 s] 81)) w.heap.size 5)
  go_wp2
  go_loopw [3, 7] (fun u i wr => ∃ j : Nat, j ≤ 2 ∧ i = .int .i64 j ∧ Own wr w.heap.size 5 u (L j) ∧ Below w.heap.size w wr) (fun _ i _ => 2 - (intOf i).toNat)
  case atStart => exact ⟨0, by omega, rfl, by rw [H0.eq]; exact HO0.out, HB0.out⟩
  case round =>
    obtain ⟨j, hj, rfl, ho, hb⟩ := hrel
    have HB := hidden hb
    clear HB0 HO0
    have h3 : j = 0 ∨ j = 1 ∨ j = 2 := by omega
    rcases h3 with rfl | rfl | rfl
    · rw [H0.eq] at ho
      obtain ⟨q, d, rfl, hy⟩ := ho.bytN rfl (show ([] : List Int).length = 0 from rfl) (fun x hx => by cases hx)
      have HPX := hidden (HP1.out q d wr hy)
      have hix : ∀ W : World, (Instr.index 81 (.agg #[.int .u64 e, .int .u64 s]) (.int .i64 0)).run Tryd.prog W = .ok (.int .u64 e) W := fun W => HIX.out 0 (by omega) W
      clear ho hy hb
      go_wp2_with (first
        | (go_at_call 42; (with_reducible refine (HPX.out).mono ?_); rintro en w2 ⟨v, rfl, ho, hb⟩; have HO := hidden ho; have HB2 := hidden hb; clear ho hb)
        | fail)
      go_roundw
      case rel => exact ⟨1, by omega, by go_num, by rw [H1.eq]; exact HO.out.mono HB.out.size, HB.out.trans (HB2.out.mono HB.out.size)⟩
      case measure => simp [intOf]
    · rw [H1.eq] at ho
      obtain ⟨q, d, rfl, hy⟩ := ho.bytN rfl HL1.eq HR1.out
      have HPX := hidden (HP2.out q d wr hy)
      have hix : ∀ W : World, (Instr.index 81 (.agg #[.int .u64 e, .int .u64 s]) (.int .i64 1)).run Tryd.prog W = .ok (.int .u64 s) W := fun W => HIX.out 1 (by omega) W
      clear ho hy hb
      go_wp2_with (first
        | (go_at_call 42; (with_reducible refine (HPX.out).mono ?_); rintro en w2 ⟨v, rfl, ho, hb⟩; have HO := hidden ho; have HB2 := hidden hb; clear ho hb)
        | fail)
      go_roundw
      case rel => exact ⟨2, by omega, by go_num, by rw [H2.eq]; exact HO.out.mono HB.out.size, HB.out.trans (HB2.out.mono HB.out.size)⟩
      case measure => simp [intOf]
    · rw [H2.eq] at ho
      obtain ⟨q, d, rfl, hy⟩ := ho.byt HR2.out
      have HY := hidden hy
      clear ho hb hy
      go_wp2
      go_ret
      exact ⟨_, _, _, rfl, HY.out, HB.out⟩
set_option maxHeartbeats 1600000 in
set_option maxRecDepth 100000 in
theorem signS_any (x : Nat) (hx : x < 18446744073709551616) (p : Option Addr) (n c : Nat) (m : List Int) (w : World) (h : Byt w p n c m) (hn : n ≤ 100000) (hK : KAt w) :
    Calls Tryd.prog 25 #[.int .u64 x, .slice p n c] w (ToGE (sigL x m) (pubE x) w) := by
  have HP := hidden (pub_any x hx w)
  unfold sigL
  cases hg : gsec x with
  | false =>
    have hE : pubE x = 13 := by unfold pubE; rw [if_neg (by rw [hg]; decide)]
    rw [if_neg (by decide), hE]
    rw [hE] at HP
    generalize ((pubV x : Nat) : Int) = y at *
    clear h hK hg hE
    go_enter Tryd.func25, Tryd.ntmps25
    go_wp2_with (first
      | (go_at_call 47; (with_reducible refine (HP.out).mono ?_); rintro en w2 ⟨rfl, hb⟩; have HB := hidden hb; clear hb)
      | fail)
    go_ret2
    exact ⟨none, 0, 0, rfl, Byt.nil _ _ _ (Nat.zero_le _), HB.out⟩
  | true =>
    have hE : pubE x = 0 := by unfold pubE; rw [if_pos hg]
    rw [if_pos rfl, hE]
    rw [hE] at HP
    have HM := hidden (fun W (hW : Below w.heap.size w W) => h.below hW)
    have HK := hidden (fun W (hW : Below w.heap.size w W) => hK.below hW hK.lt)
    have hgb := gp_big
    have hqb := gq_big
    have HGB := hidden (fun W => gbytes_any x hx W)
    have HL := Is.mk (gbytes_len x)
    have HHM := hidden (fun (q : Option Addr) (d : Nat) W (hW : Byt W q 8 d (gbytes x)) (hb : Below w.heap.size w W) => hmac_any q p 8 d n c (gbytes x) m W hW (by omega) (HM.out W hb) (by omega) (HK.out W hb))
    have HHL := Is.mk (hmacS_len (gbytes x) m)
    have HHR := hidden (hmacS_rng (gbytes x) m)
    have HKS : Is (1 + num8 (hmacS (gbytes x) m) % (gq - 1)) (kS x m) := ⟨rfl⟩
    have hes := eS_lt x m
    have hss := sS_lt x m
    have hks := kS_lt x m
    have hyl := pubV_lt x
    have hrl := gpow_lt 4 (kS x m)
    have HSS : Is ((kS x m + eS x m * x) % gq) (sS x m) := ⟨rfl⟩
    have HCH := hidden (fun W (hb : Below w.heap.size w W) => chalS_any (gpow 4 (kS x m)) (pubV x) (by omega) (by omega) p n c m W (HM.out W hb) hn (HK.out W hb))
    have HCE : Is (chal (gpow 4 (kS x m)) (pubV x) m) (eS x m) := ⟨rfl⟩
    rw [HCE.eq] at HCH
    have HPW := hidden (fun W => gpow_any 4 (kS x m) (by decide) (by omega) W)
    rw [cast4] at HPW
    have HAN := hidden (fun W => ansS_any (kS x m) (eS x m) x (by omega) (by omega) hx W)
    rw [HSS.eq] at HAN
    have HPB := hidden (fun W => pbytes_any (eS x m) (sS x m) (by omega) (by omega) W)
    generalize gbytes (eS x m) ++ gbytes (sS x m) = R at *
    generalize gpow 4 (kS x m) = r at *
    generalize hmacS (gbytes x) m = D at *
    generalize gbytes x = A at *
    generalize kS x m = k at *
    generalize eS x m = e at *
    generalize sS x m = s at *
    generalize pubV x = y at *
    have HNM := hidden (fun (q : Option Addr) (d : Nat) W (hW : Byt W q 32 d D) => numS_any q 32 d D W hW 0 (by omega))
    rw [List.drop_zero, show ((0 : Nat) : Int) = 0 from rfl] at HNM
    have hk1 := modq1_int (num8 D)
    have hkk : (1 : Int) + ((num8 D : Nat) : Int) % 2305843009213688668 = (k : Int) := by rw [hk1, ← HKS.eq]; omega
    have hV0 : (0 : Int) ≤ ((num8 D : Nat) : Int) := by omega
    have hV1 : ((num8 D : Nat) : Int) < 18446744073709551616 := by have := (num8_int D HHR.out).2; omega
    generalize ((num8 D : Nat) : Int) = V at *
    clear h hK hg hE hgb hqb hes hss hks hyl hrl hk1 HKS HSS HCE
    go_enter Tryd.func25, Tryd.ntmps25
    go_upto_region 5 with (first
      | (go_at_call 47; (with_reducible refine (HP.out).mono ?_); rintro en w2 ⟨rfl, hb⟩; have HB2 := hidden hb; clear hb)
      | (go_at_call 50; (with_reducible refine (HGB.out _).mono ?_); rintro en w3 ⟨p1, N1, c1, rfl, hy1, hb1⟩; have hN1 := hy1.len; rw [HL.eq] at hN1; subst hN1; have HB3 := hidden (HB2.out.trans (hb1.mono HB2.out.size)); have HHX := hidden (HHM.out p1 c1 w3 hy1 HB3.out); clear hy1 hb1)
      | (go_at_call 49; (with_reducible refine (HHX.out).mono ?_); rintro en w4 ⟨v4, rfl, ho4, hb4⟩; obtain ⟨p4, c4, rfl, hy4⟩ := ho4.bytN rfl HHL.eq HHR.out; have HB4 := hidden (HB3.out.trans (hb4.mono HB3.out.size)); have HNX := hidden (HNM.out p4 c4 w4 hy4); clear ho4 hb4 hy4 HHX)
      | (go_at_call 48; (with_reducible refine (HNX.out).mono ?_); rintro en w5 ⟨rfl, rfl⟩)
      | fail)
    clear HNX HNM HHM hkk hV0 hV1
    go_wp2_with (first
      | (go_at_call 52; (with_reducible refine (HPW.out _).mono ?_); rintro en w6 ⟨rfl, hb⟩; have HB6 := hidden (HB4.out.trans (hb.mono HB4.out.size)); have HCX := hidden (HCH.out w6 HB6.out); clear hb)
      | (go_at_call 51; (with_reducible refine (HCX.out).mono ?_); rintro en w7 ⟨rfl, hb⟩; have HB7 := hidden (HB6.out.trans (hb.mono HB6.out.size)); clear hb)
      | (go_at_call 53; (with_reducible refine (HAN.out _).mono ?_); rintro en w8 ⟨rfl, hb⟩; have HB8 := hidden (HB7.out.trans (hb.mono HB7.out.size)); clear hb)
      | (go_at_call 54; (with_reducible refine (HPB.out _).mono ?_); rintro en w9 ⟨p9, N9, c9, rfl, hy9, hb9⟩; have HY9 := hidden hy9; have HB9 := hidden (HB8.out.trans (hb9.mono HB8.out.size)); clear hy9 hb9)
      | fail)
    go_ret2
    exact ⟨_, _, _, rfl, HY9.out, HB9.out⟩
end Go.Proofs.YtkniifopfgeopaaDoor
