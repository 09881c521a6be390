/-
  schnorr's small functions and the document's: the number of bytes, the challenge, the answer.
-/
import Derived.Test.YtkniifopfgeopaaDoorHZ2
import Derived.Test.YtkniifopfgeopaaDoorHRPrfHmac
import Derived.Test.YtkniifopfgeopaaDoorHZ3
import Derived.Test.YtkniifopfgeopaaDoorHZ5
import Derived.Laws.Externs
namespace Go.Proofs.YtkniifopfgeopaaDoor
open Go.RowKit
set_option linter.unusedVariables false

theorem addS_0 (x y : Int) (hx : 0 ≤ x) (hy : 0 ≤ y) (w : World) :
    (callFunc 75 #[.int .u64 x, .int .u64 y, .int .u64 0]).run Tryd.prog w =
      .ok (.value (.tuple #[.int .u64 ((x + y) % 18446744073709551616), .int .u64 ((x + y) / 18446744073709551616)])) w := by
  rw [run_callFunc_extern Tryd.func75 (by kernel_rfl) (by kernel_rfl) (by kernel_rfl) (e := add64Entry) (by kernel_rfl), run_add64 x y 0 hx hy (Int.le_refl 0) (by decide)]
  simp only [Result.andThen, Int.add_zero]

set_option maxHeartbeats 800000 in
theorem numS_any (p : Option Addr) (n c : Nat) (xs : List Int) (w : World) (h : Byt w p n c xs) (a : Nat) (ha : a + 8 ≤ n) :
    Calls Tryd.prog 48 #[.slice p n c, .int .i64 a, .int .i64 8] w fun e w' => e = .returned (.int .u64 ((num8 (xs.drop a) : Nat) : Int)) ∧ w = w' := by
  have hr := rng_drop h.rng a
  have HN := hidden (number_yes p n c xs w h a 8 (by omega) (by omega) ha)
  rw [← (num8_int _ hr).1, show ((8 : Nat) : Int) = 8 from rfl] at HN
  clear h hr
  generalize num8 (xs.drop a) = v at *
  go_enter Tryd.func48, Tryd.ntmps48
  go_wp2_with (first
    | (go_at_call 70; (with_reducible refine (HN.out).mono ?_); rintro e w2 ⟨rfl, rfl⟩)
    | fail)
  go_ret
  exact ⟨rfl, rfl⟩
set_option maxHeartbeats 800000 in
theorem firstS_any (p : Option Addr) (n c : Nat) (xs : List Int) (w : World) (h : Byt w p n c xs) (ha : 8 ≤ n) :
    Calls Tryd.prog 60 #[.slice p n c] w fun e w' => e = .returned (.int .u64 ((num8 xs : Nat) : Int)) ∧ w = w' := by
  have hr := h.rng
  have HN := hidden (rnumber_yes p n c xs w h 0 8 (by omega) (by omega) (by omega))
  rw [List.drop_zero, ← (num8_int _ hr).1, show ((8 : Nat) : Int) = 8 from rfl, show ((0 : Nat) : Int) = 0 from rfl] at HN
  clear h hr
  generalize num8 xs = v at *
  go_enter Tryd.func60, Tryd.ntmps60
  go_wp2_with (first
    | (go_at_call 38; (with_reducible refine (HN.out).mono ?_); rintro e w2 ⟨rfl, rfl⟩)
    | fail)
  go_ret
  exact ⟨rfl, rfl⟩
/-- Three parts to be joined. -/
theorem three_slices (w : World) (p0 p1 p2 : Option Addr) (n0 n1 n2 c0 c1 c2 : Nat) (x0 x1 x2 : List Int) (T : TypeId) (h0 : Byt w p0 n0 c0 x0) (h1 : Byt w p1 n1 c1 x1) (h2 : Byt w p2 n2 c2 x2) :
    Parts (w.alloc (.cells #[.slice p0 n0 c0, .slice p1 n1 c1, .slice p2 n2 c2] T)) (some ⟨w.heap.size, 0, none⟩) 3 3 [⟨p0, n0, c0, x0⟩, ⟨p1, n1, c1, x1⟩, ⟨p2, n2, c2, x2⟩] :=
  ⟨rfl, Nat.le_refl _, by decide, fun _ => ⟨w.heap.size, rfl, fun j hj => by
    have : j = 0 ∨ j = 1 ∨ j = 2 := by simp at hj; omega
    rcases this with rfl | rfl | rfl <;> go_simp⟩, fun x hx => by
    simp at hx
    rcases hx with rfl | rfl | rfl
    · exact h0.alloc _
    · exact h1.alloc _
    · exact h2.alloc _⟩
theorem cat3_any (w : World) (p0 p1 p2 : Option Addr) (n0 n1 n2 c0 c1 c2 : Nat) (x0 x1 x2 : List Int) (h0 : Byt w p0 n0 c0 x0) (h1 : Byt w p1 n1 c1 x1) (h2 : Byt w p2 n2 c2 x2) (hs : n0 + (n1 + n2) ≤ 140737488355328) :
    Calls Tryd.prog 35 #[.slice (some ⟨w.heap.size, 0, none⟩) 3 3] (w.alloc (.cells #[.slice p0 n0 c0, .slice p1 n1 c1, .slice p2 n2 c2] 22)) fun e w' =>
      ∃ v, e = .returned v ∧ Own w' w.heap.size 5 v (x0 ++ (x1 ++ x2)) ∧ Below w.heap.size w w' := by
  have := concat_any (some ⟨w.heap.size, 0, none⟩) 3 3 _ _ (three_slices w p0 p1 p2 n0 n1 n2 c0 c1 c2 x0 x1 x2 22 h0 h1 h2) (by simp [sizeOf']; omega)
  simp only [bytesOf, List.flatMap_cons, List.flatMap_nil, List.append_nil, World.size_alloc] at this
  refine this.mono ?_
  rintro e w' ⟨v, he, ho, hb⟩
  exact ⟨v, he, ho.mono (by omega), ((Below.refl w.heap.size w).alloc (Nat.le_refl _) _).trans (hb.mono (by omega))⟩
theorem rcat3_any (w : World) (p0 p1 p2 : Option Addr) (n0 n1 n2 c0 c1 c2 : Nat) (x0 x1 x2 : List Int) (h0 : Byt w p0 n0 c0 x0) (h1 : Byt w p1 n1 c1 x1) (h2 : Byt w p2 n2 c2 x2) (hs : n0 + (n1 + n2) ≤ 140737488355328) :
    Calls Tryd.prog 78 #[.slice (some ⟨w.heap.size, 0, none⟩) 3 3] (w.alloc (.cells #[.slice p0 n0 c0, .slice p1 n1 c1, .slice p2 n2 c2] 22)) fun e w' =>
      ∃ v, e = .returned v ∧ Own w' w.heap.size 5 v (x0 ++ (x1 ++ x2)) ∧ Below w.heap.size w w' := by
  have := rjoin_any (some ⟨w.heap.size, 0, none⟩) 3 3 _ _ (three_slices w p0 p1 p2 n0 n1 n2 c0 c1 c2 x0 x1 x2 22 h0 h1 h2) (by simp [sizeOf']; omega)
  simp only [bytesOf, List.flatMap_cons, List.flatMap_nil, List.append_nil, World.size_alloc] at this
  refine this.mono ?_
  rintro e w' ⟨v, he, ho, hb⟩
  exact ⟨v, he, ho.mono (by omega), ((Below.refl w.heap.size w).alloc (Nat.le_refl _) _).trans (hb.mono (by omega))⟩
theorem modq_int (a : Nat) : ((a : Int) % 2305843009213688669) = ((a % gq : Nat) : Int) := by unfold gq; omega
theorem modq1_int (a : Nat) : ((a : Int) % 2305843009213688668) = ((a % (gq - 1) : Nat) : Int) := by unfold gq; omega

set_option maxHeartbeats 1600000 in
set_option maxRecDepth 100000 in
theorem chalS_any (r y : Nat) (hr : r < 18446744073709551616) (hy : y < 18446744073709551616) (p : Option Addr) (n c : Nat) (m : List Int) (w : World) (h : Byt w p n c m) (hn : n ≤ 100000) (hK : KAt w) :
    Calls Tryd.prog 51 #[.int .u64 r, .int .u64 y, .slice p n c] w fun e w' => e = .returned (.int .u64 ((chal r y m : Nat) : Int)) ∧ Below w.heap.size w w' := by
  have H1 := hidden (gbytes_any r hr w)
  have H2 := hidden (fun W => gbytes_any y hy W)
  have HM := hidden (fun W (hW : Below w.heap.size w W) => h.below hW)
  have HK := hidden (fun W (hW : Below w.heap.size w W) => hK.below hW hK.lt)
  have hl := h.len
  have HL1 := Is.mk (gbytes_len r)
  have HL2 := Is.mk (gbytes_len y)
  have HXR := hidden (rng_append (gbytes_rng r) (rng_append (gbytes_rng y) h.rng))
  have HC : Is (num8 (shaS (gbytes r ++ (gbytes y ++ m))) % gq) (chal r y m) := ⟨rfl⟩
  generalize chal r y m = E at *
  generalize gbytes r = A at *
  generalize gbytes y = B at *
  have hxl : (A ++ (B ++ m)).length = 16 + n := by rw [List.length_append, List.length_append, HL1.eq, HL2.eq, hl]; omega
  obtain ⟨X, hX⟩ : ∃ X, A ++ (B ++ m) = X := ⟨_, rfl⟩
  rw [hX] at hxl HC HXR
  have HX := Is.mk hX
  have HXL := Is.mk hxl
  have HS := Is.mk (shaS_len X)
  have HSR := hidden (shaS_rng X)
  have HSUM := hidden (fun (q : Option Addr) (d : Nat) W (hW : Byt W q (16 + n) d X) (hb : Below w.heap.size w W) => sum_any q (16 + n) d X W hW (by omega) (HK.out W hb))
  generalize shaS X = D at *
  have HNM := hidden (fun (q : Option Addr) (d : Nat) W (hW : Byt W q 32 d D) => numS_any q 32 d D W hW 0 (by omega))
  rw [List.drop_zero, show ((0 : Nat) : Int) = 0 from rfl] at HNM
  have HMQ := Is.mk (modq_int (num8 D))
  rw [HC.eq] at HMQ
  have hV0 : (0 : Int) ≤ ((num8 D : Nat) : Int) := by omega
  generalize ((num8 D : Nat) : Int) = V at *
  clear h hK hl hr hy hX hxl HC
  go_enter Tryd.func51, Tryd.ntmps51
  go_wp2_with (first
    | (go_at_call 50; (with_reducible refine (H1.out).mono ?_); rintro e w2 ⟨p1, N1, c1, rfl, hy1, hb1⟩; have hN1 := hy1.len; rw [HL1.eq] at hN1; subst hN1; have HY1 := hidden (fun W (hW : Below w2.heap.size w2 W) => hy1.below hW); have HB2 := hidden hb1; clear hy1 hb1 H1)
    | (go_at_call 50; (with_reducible refine (H2.out _).mono ?_); rintro e w3 ⟨p2, N2, c2, rfl, hy2, hb2⟩; have hN2 := hy2.len; rw [HL2.eq] at hN2; subst hN2; have HB3 := hidden (HB2.out.trans (hb2.mono HB2.out.size)); have HCT := hidden (cat3_any w3 p1 p2 p 8 8 n c1 c2 c A B m (HY1.out w3 hb2) hy2 (HM.out w3 HB3.out) (by omega)); clear hy2 hb2 H2)
    | (go_at_call 35; (with_reducible refine (HCT.out).mono ?_); rintro e w4 ⟨v4, rfl, ho4, hb4⟩; obtain ⟨p4, c4, rfl, hy4⟩ := ho4.bytN HX.eq HXL.eq HXR.out; have HB4 := hidden (HB3.out.trans (hb4.mono HB3.out.size)); have HSM := hidden (HSUM.out p4 c4 w4 hy4 HB4.out); clear ho4 hb4 hy4 HCT)
    | (go_at_call 73; (with_reducible refine (HSM.out).mono ?_); rintro e w5 ⟨v5, rfl, ho5, hb5⟩; obtain ⟨p5, c5, rfl, hy5⟩ := ho5.bytN rfl HS.eq HSR.out; have HB5 := hidden (HB4.out.trans (hb5.mono HB4.out.size)); have HNN := hidden (HNM.out p5 c5 w5 hy5); clear ho5 hb5 hy5 HSM)
    | (go_at_call 48; (with_reducible refine (HNN.out).mono ?_); rintro e w6 ⟨rfl, rfl⟩)
    | fail)
  go_ret
  exact ⟨by rw [HMQ.eq]; first | done | rfl, HB5.out⟩
set_option maxHeartbeats 1600000 in
set_option maxRecDepth 100000 in
theorem rchalS_any (r y : Nat) (hr : r < 18446744073709551616) (hy : y < 18446744073709551616) (p : Option Addr) (n c : Nat) (m : List Int) (w : World) (h : Byt w p n c m) (hn : n ≤ 100000) :
    Calls Tryd.prog 61 #[.int .u64 r, .int .u64 y, .slice p n c] w fun e w' => e = .returned (.int .u64 ((chal r y m : Nat) : Int)) ∧ Below w.heap.size w w' := by
  have H1 := hidden (rgbytes_any r hr w)
  have H2 := hidden (fun W => rgbytes_any y hy W)
  have HM := hidden (fun W (hW : Below w.heap.size w W) => h.below hW)
  have hl := h.len
  have HL1 := Is.mk (gbytes_len r)
  have HL2 := Is.mk (gbytes_len y)
  have HXR := hidden (rng_append (gbytes_rng r) (rng_append (gbytes_rng y) h.rng))
  have HC : Is (num8 (shaS (gbytes r ++ (gbytes y ++ m))) % gq) (chal r y m) := ⟨rfl⟩
  generalize chal r y m = E at *
  generalize gbytes r = A at *
  generalize gbytes y = B at *
  have hxl : (A ++ (B ++ m)).length = 16 + n := by rw [List.length_append, List.length_append, HL1.eq, HL2.eq, hl]; omega
  obtain ⟨X, hX⟩ : ∃ X, A ++ (B ++ m) = X := ⟨_, rfl⟩
  rw [hX] at hxl HC HXR
  have HX := Is.mk hX
  have HXL := Is.mk hxl
  have HS := Is.mk (shaS_len X)
  have HSR := hidden (shaS_rng X)
  have HSUM := hidden (fun (q : Option Addr) (d : Nat) W (hW : Byt W q (16 + n) d X) => rsum_any q (16 + n) d X W hW (by omega))
  generalize shaS X = D at *
  have HNM := hidden (fun (q : Option Addr) (d : Nat) W (hW : Byt W q 32 d D) => firstS_any q 32 d D W hW (by omega))
  have HMQ := Is.mk (modq_int (num8 D))
  rw [HC.eq] at HMQ
  have hV0 : (0 : Int) ≤ ((num8 D : Nat) : Int) := by omega
  generalize ((num8 D : Nat) : Int) = V at *
  clear h hl hr hy hX hxl HC
  go_enter Tryd.func61, Tryd.ntmps61
  go_wp2_with (first
    | (go_at_call 46; (with_reducible refine (H1.out).mono ?_); rintro e w2 ⟨p1, N1, c1, rfl, hy1, hb1⟩; have hN1 := hy1.len; rw [HL1.eq] at hN1; subst hN1; have HY1 := hidden (fun W (hW : Below w2.heap.size w2 W) => hy1.below hW); have HB2 := hidden hb1; clear hy1 hb1 H1)
    | (go_at_call 46; (with_reducible refine (H2.out _).mono ?_); rintro e w3 ⟨p2, N2, c2, rfl, hy2, hb2⟩; have hN2 := hy2.len; rw [HL2.eq] at hN2; subst hN2; have HB3 := hidden (HB2.out.trans (hb2.mono HB2.out.size)); have HCT := hidden (rcat3_any w3 p1 p2 p 8 8 n c1 c2 c A B m (HY1.out w3 hb2) hy2 (HM.out w3 HB3.out) (by omega)); clear hy2 hb2 H2)
    | (go_at_call 78; (with_reducible refine (HCT.out).mono ?_); rintro e w4 ⟨v4, rfl, ho4, hb4⟩; obtain ⟨p4, c4, rfl, hy4⟩ := ho4.bytN HX.eq HXL.eq HXR.out; have HB4 := hidden (HB3.out.trans (hb4.mono HB3.out.size)); have HSM := hidden (HSUM.out p4 c4 w4 hy4); clear ho4 hb4 hy4 HCT)
    | (go_at_call 77; (with_reducible refine (HSM.out).mono ?_); rintro e w5 ⟨v5, rfl, ho5, hb5⟩; obtain ⟨p5, c5, rfl, hy5⟩ := ho5.bytN rfl HS.eq HSR.out; have HB5 := hidden (HB4.out.trans (hb5.mono HB4.out.size)); have HNN := hidden (HNM.out p5 c5 w5 hy5); clear ho5 hb5 hy5 HSM)
    | (go_at_call 60; (with_reducible refine (HNN.out).mono ?_); rintro e w6 ⟨rfl, rfl⟩)
    | fail)
  go_ret
  exact ⟨by rw [HMQ.eq]; first | done | rfl, HB5.out⟩

theorem ans_nat (k e x : Nat) (hk : k < 18446744073709551616) (he : e < 18446744073709551616) (hx : x < 18446744073709551616) :
    e * x / 18446744073709551616 + (e * x % 18446744073709551616 + k) / 18446744073709551616 < 18446744073709551616 ∧
    ((e * x / 18446744073709551616 + (e * x % 18446744073709551616 + k) / 18446744073709551616) * 18446744073709551616 + (e * x % 18446744073709551616 + k) % 18446744073709551616) = k + e * x := by
  have h1 : e * x ≤ 18446744073709551615 * 18446744073709551615 := Nat.mul_le_mul (by omega) (by omega)
  generalize e * x = z at *
  omega
set_option maxHeartbeats 1600000 in
theorem ansS_any (k e x : Nat) (hk : k < 18446744073709551616) (he : e < 18446744073709551616) (hx : x < 18446744073709551616) (w : World) :
    Calls Tryd.prog 53 #[.int .u64 k, .int .u64 e, .int .u64 x] w fun en w' => en = .returned (.int .u64 (((k + e * x) % gq : Nat) : Int)) ∧ Below w.heap.size w w' := by
  have HM := hidden (mul64_any e x he hx w)
  obtain ⟨e1, e2⟩ := ans_nat k e x hk he hx
  have hR := rem64q_any ((e * x / 18446744073709551616 + (e * x % 18446744073709551616 + k) / 18446744073709551616 : Nat) : Int) (((e * x % 18446744073709551616 + k) % 18446744073709551616 : Nat) : Int) (by omega) (by omega) (by omega) (by omega) w
  have e3 : ((((e * x / 18446744073709551616 + (e * x % 18446744073709551616 + k) / 18446744073709551616 : Nat) : Int) * 18446744073709551616 + (((e * x % 18446744073709551616 + k) % 18446744073709551616 : Nat) : Int)) % 2305843009213688669) = (((k + e * x) % gq : Nat) : Int) := by
    rw [← e2]
    unfold gq
    omega
  rw [e3] at hR
  generalize (k + e * x) % gq = R at *
  clear e3 e2
  have hq1 : e * x % 18446744073709551616 < 18446744073709551616 := Nat.mod_lt _ (by decide)
  generalize e * x / 18446744073709551616 = h at *
  generalize e * x % 18446744073709551616 = l at *
  have n1 : (0 : Int) ≤ (l : Int) := by omega
  have n2 : (0 : Int) ≤ (k : Int) := by omega
  have k1 : IntKind.u64.wrap ((h : Int) + ((l : Int) + (k : Int)) / 18446744073709551616) = ((h + (l + k) / 18446744073709551616 : Nat) : Int) := by rw [IntKind.wrap_u64]; omega
  have k2 : ((l : Int) + (k : Int)) % 18446744073709551616 = (((l + k) % 18446744073709551616 : Nat) : Int) := by omega
  have HR := hidden hR
  clear hR e1 hq1 hk he hx
  generalize ((h + (l + k) / 18446744073709551616 : Nat) : Int) = a1 at *
  generalize (((l + k) % 18446744073709551616 : Nat) : Int) = a2 at *
  go_enter Tryd.func53, Tryd.ntmps53
  go_wp2_with (first
    | (go_at_call 74; (with_reducible refine (HM.out).mono ?_); rintro e w2 ⟨rfl, rfl⟩)
    | simp only [addS_0 (l : Int) (k : Int) n1 n2]
    | (go_at_call 76; (with_reducible refine (HR.out).mono ?_); rintro e w3 ⟨rfl, hb⟩; have HB := hidden hb; clear hb)
    | fail)
  go_ret
  exact ⟨rfl, HB.out⟩
end Go.Proofs.YtkniifopfgeopaaDoor
