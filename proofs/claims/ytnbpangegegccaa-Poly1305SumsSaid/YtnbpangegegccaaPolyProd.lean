/-
  poly1305.product: the product modulo 2^130 - 5.
-/
import Derived.Test.YtnbpangegegccaaPolyOps
namespace Go.Proofs.Ytnbpangegegccaa
open Go.RowKit
set_option linter.unusedVariables false

/-- A product comes into its limb. -/
theorem prod_step (A B O : List Int) (i k : Nat) (t p : Int) (hO : O.length = 5) (hi : i < 5) (hk : k < B.length) (hp : A.getD i 0 * B.getD k 0 = p)
    (h : num B26 O + t * P130 = num B26 (A.take i) * num B26 B + A.getD i 0 * B26 ^ i * num B26 (B.take k)) (hlt : i + k < 5) :
    num B26 (O.set (i + k) (O.getD (i + k) 0 + p)) + t * P130 = num B26 (A.take i) * num B26 B + A.getD i 0 * B26 ^ i * num B26 (B.take (k + 1)) := by
  rw [num_set _ _ _ (by omega), num_take _ _ _ hk, Int.pow_add]
  subst hp
  grind
theorem prod_wrap (A B O : List Int) (i k q : Nat) (t p : Int) (hO : O.length = 5) (hi : i < 5) (hk : k < B.length) (hp : A.getD i 0 * B.getD k 0 = p)
    (h : num B26 O + t * P130 = num B26 (A.take i) * num B26 B + A.getD i 0 * B26 ^ i * num B26 (B.take k)) (hq : i + k = q + 5) (hq5 : q < 5) :
    num B26 (O.set q (O.getD q 0 + p * 5)) + (t + B26 ^ q * p) * P130 = num B26 (A.take i) * num B26 B + A.getD i 0 * B26 ^ i * num B26 (B.take (k + 1)) := by
  rw [num_set _ _ _ (by omega), num_take _ _ _ hk]
  have h1 : B26 ^ i * B26 ^ k = B26 ^ q * B26 ^ 5 := by rw [← Int.pow_add, ← Int.pow_add, hq]
  have h2 : B26 ^ 5 = P130 + 5 := by decide
  rw [h2] at h1
  subst hp
  generalize B26 ^ i = bi at *
  generalize B26 ^ k = bk at *
  generalize B26 ^ q = bq at *
  generalize num B26 O = o at *
  grind
theorem mul_lt (x y X Y : Int) (hx : 0 ≤ x ∧ x < X) (hy : 0 ≤ y ∧ y < Y) : 0 ≤ x * y ∧ x * y ≤ X * Y := by
  refine ⟨Int.mul_nonneg hx.1 hy.1, ?_⟩
  exact Int.le_trans (Int.mul_le_mul_of_nonneg_right (Int.le_of_lt hx.2) hy.1) (Int.mul_le_mul_of_nonneg_left (Int.le_of_lt hy.2) (by omega))
theorem prod_next (A B : List Int) (i : Nat) (t o : Int) (hi : i < A.length)
    (h : o + t * P130 = num B26 (A.take i) * num B26 B + A.getD i 0 * B26 ^ i * num B26 B) : o + t * P130 = num B26 (A.take (i + 1)) * num B26 B := by
  rw [num_take _ _ _ hi]
  grind

/-- What lies where in the rounds. -/
structure PrI (w wr : World) (n : Nat) (SB : Array Value) (O : List Int) : Prop where
  b : wr.heap[n + 1]? = some (.cells SB 44 (0, 0))
  z : Wn .u64 wr (n + 1 + 1) 44 (List.replicate 5 0)
  o : Wn .u64 wr (n + 1 + 1 + 1) 44 O
  bel : Below n w wr
  len : O.length = 5
theorem PrI.set {w wr : World} {n : Nat} {SB : Array Value} {O : List Int} (h : PrI w wr n SB O) (j : Nat) (v : Int) : PrI w (wr.setCell ⟨n + 1 + 1 + 1, j, none⟩ (.int .u64 v)) n SB (O.set j v) :=
  ⟨by rw [Below.heap_setCell _ _ _ _ (by simp)]; exact h.b, h.z.other _ _ (by simp), h.o.set _ _, h.bel.setCell (by simp; omega) _, by rw [List.length_set, h.len]⟩

set_option maxHeartbeats 3200000 in
set_option maxRecDepth 100000 in
theorem product_any (A B : List Int) (hA : A.length = 5) (hB : B.length = 5) (hrA : ∀ x ∈ A, 0 ≤ x ∧ x < 268435456) (hrB : ∀ x ∈ B, 0 ≤ x ∧ x < 67108864) (w : World) :
    Calls Try.prog 19 #[.agg (ints .u64 A), .agg (ints .u64 B)] w fun e w' => ∃ R, e = .returned (.agg (ints .u64 R)) ∧ Lm 67108869 67108864 R ∧ (∃ t, num B26 R + t * P130 = num B26 A * num B26 B) ∧ Below w.heap.size w w' := by
  obtain ⟨i0, hi0, hz0, hz1, hz2⟩ := info_parts infoU64
  have HIXA := hidden (fun (j : Nat) (hj : j < 5) (w' : World) => run_indexN (k := .u64) (P := Try.prog) Try.underlying44 Try.underlying42 hi0 hz1 A hA j hj w')
  have HIXB := hidden (fun (j : Nat) (hj : j < 5) (w' : World) => run_indexN (k := .u64) (P := Try.prog) Try.underlying44 Try.underlying42 hi0 hz1 B hB j hj w')
  have HIA := hidden (infoL A hA)
  have HIB := hidden (infoL B hB)
  have HXA := hidden (fun j (hj : j < 5) => hrA (A.getD j 0) (by rw [List.getD_eq_getElem?_getD]; simp [show j < A.length by omega]))
  have HXB := hidden (fun j (hj : j < 5) => hrB (B.getD j 0) (by rw [List.getD_eq_getElem?_getD]; simp [show j < B.length by omega]))
  have HAL := Is.mk hA
  have HBL := Is.mk hB
  obtain ⟨NA, hNA⟩ : ∃ NA, num B26 A * num B26 B = NA := ⟨_, rfl⟩
  have HNA := Is.mk hNA
  have HST := hidden (prod_step A B)
  have HWR := hidden (prod_wrap A B)
  have HNX := hidden (prod_next A B)
  obtain ⟨V, hV⟩ : ∃ V : Nat → Nat → Int, V = fun i k => num B26 (A.take i) * num B26 B + A.getD i 0 * B26 ^ i * num B26 (B.take k) := ⟨_, rfl⟩
  have HV := hidden (fun i k => (show V i k = num B26 (A.take i) * num B26 B + A.getD i 0 * B26 ^ i * num B26 (B.take k) by rw [hV]))
  obtain ⟨U, hU⟩ : ∃ U : Nat → Int, U = fun i => num B26 (A.take i) * num B26 B := ⟨_, rfl⟩
  have HU := hidden (fun i => (show U i = num B26 (A.take i) * num B26 B by rw [hU]))
  have HU0 : Hid (num B26 [0, 0, 0, 0, 0] + 0 * P130 = U 0) := by show num B26 [0, 0, 0, 0, 0] + 0 * P130 = U 0; rw [hU]; simp [num]
  have HUV : Hid (∀ i, V i 0 = U i) := fun i => by rw [hU, hV]; simp [num]
  have HVU : Hid (∀ i, i < 5 → ∀ o t, o + t * P130 = V i 5 → o + t * P130 = U (i + 1)) := fun i hi o t h => by
    rw [HU.out, prod_next A B i t o (by omega)]
    rw [h, HV.out, List.take_of_length_le (show B.length ≤ 5 by omega)]
  have HUE : Is (U 5) NA := ⟨by rw [HU.out, List.take_of_length_le (show A.length ≤ 5 by omega), hNA]⟩
  have HSTEP : Hid (∀ (O : List Int) (i k : Nat) (t p : Int), O.length = 5 → i < 5 → k < 5 → A.getD i 0 * B.getD k 0 = p → num B26 O + t * P130 = V i k → i + k < 5 → num B26 (O.set (i + k) (O.getD (i + k) 0 + p)) + t * P130 = V i (k + 1)) := fun O i k t p h1 h2 h3 h4 h5 h6 => by
    rw [HV.out] at h5 ⊢
    exact prod_step A B O i k t p h1 h2 (by omega) h4 h5 h6
  have HWRAP : Hid (∀ (O : List Int) (i k q : Nat) (t p : Int), O.length = 5 → i < 5 → k < 5 → A.getD i 0 * B.getD k 0 = p → num B26 O + t * P130 = V i k → i + k = q + 5 → q < 5 → num B26 (O.set q (O.getD q 0 + p * 5)) + (t + B26 ^ q * p) * P130 = V i (k + 1)) := fun O i k q t p h1 h2 h3 h4 h5 h6 h7 => by
    rw [HV.out] at h5 ⊢
    exact prod_wrap A B O i k q t p h1 h2 (by omega) h4 h5 h6 h7
  rw [hNA]
  clear hi0 hz0 hz1 hz2 hA hB hrA hrB hNA hU hV HU HV HST HWR HNX
  generalize hSA : ints .u64 A = SA at HIXA HIA ⊢
  generalize hSB : ints .u64 B = SB at HIXB HIB ⊢
  have HSA := Is.mk hSA
  have HSB := Is.mk hSB
  clear hSA hSB
  go_enter Try.func19, Try.ntmps19
  go_upto_region 2 with fail
  generalize hw1 : World.alloc _ (.cells _ 44) = w1
  have hIA : w1.heap[w.heap.size]? = some (.cells SA 44 (0, 0)) := by
    rw [← hw1, Below.heap_alloc _ _ _ (by simp; omega), Below.heap_alloc _ _ _ (by simp; omega), Below.heap_alloc _ _ _ (by simp), heap_alloc_new]
  have hI : PrI w w1 w.heap.size SB [0, 0, 0, 0, 0] := by
    rw [← hw1]
    refine ⟨?_, ?_, ?_, ?_, rfl⟩
    · rw [Below.heap_alloc _ _ _ (by simp), heap_2nd]
    · exact (Wn.new' .u64 _ 44 (List.replicate 5 0) _ rfl _ (by simp)).alloc _
    · exact Wn.new' .u64 _ 44 [0, 0, 0, 0, 0] _ rfl _ (by simp)
    · exact ((((Below.refl _ w).alloc (Nat.le_refl _) _).alloc (by simp) _).alloc (by simp; omega) _).alloc (by simp; omega) _
  clear hw1
  obtain ⟨n, hn⟩ : ∃ n, w.heap.size = n := ⟨_, rfl⟩
  simp only [hn] at hIA hI ⊢
  have HN := hidden hn
  have HIA1 := hidden hIA
  have HI0 := hidden hI
  have HO0 : Hid (∀ z ∈ ([0, 0, 0, 0, 0] : List Int), 0 ≤ z ∧ z ≤ 90071992547409920 * ((5 * 0 : Nat) : Int)) := by show ∀ z ∈ ([0, 0, 0, 0, 0] : List Int), 0 ≤ z ∧ z ≤ 90071992547409920 * ((5 * 0 : Nat) : Int); simp
  clear hIA hI hn
  go_wp2_with (first
    | (refine wpList_load_row rfl 44 _ rfl n rfl 44 SA (0, 0) _ HIA1.out Try.underlying44 rfl HIA.out ?_)
    | fail)
  go_loopw [12] (fun i wr => ∃ (j : Nat) (O : List Int) (t : Int), j ≤ 5 ∧ i = .int .i64 j ∧ PrI w wr n SB O ∧ (∀ z ∈ O, 0 ≤ z ∧ z ≤ 90071992547409920 * ((5 * j : Nat) : Int)) ∧ Hid (num B26 O + t * P130 = U j)) (fun i _ => 5 - (intOf i).toNat)
  case atStart => exact ⟨0, [0, 0, 0, 0, 0], 0, by omega, rfl, HI0.out, HO0.out, HU0⟩
  case round =>
    obtain ⟨j, O, t, hj, rfl, hi, ho, HT⟩ := hrel
    have HI := hidden hi
    have HO := hidden ho
    clear hi ho HI0 HO0 HIA1
    by_cases hlt : j < 5
    · have hixa := HIXA.out j hlt
      have hxa := HXA.out j hlt
      have hxaE : Is (A.getD j 0) (A.getD j 0) := ⟨rfl⟩
      have b0 : (j : Int) < 5 := by omega
      have b1 : (0 : Int) ≤ (j : Int) := by omega
      have HT2 : Hid (num B26 O + t * P130 = V j 0) := by show num B26 O + t * P130 = V j 0; rw [HUV.out]; exact HT.out
      have HSTJ := hidden (fun (O : List Int) (k : Nat) (t p : Int) h1 h3 h4 h5 h6 => HSTEP.out O j k t p h1 hlt h3 h4 h5 h6)
      have HWRJ := hidden (fun (O : List Int) (k q : Nat) (t p : Int) h1 h3 h4 h5 h6 h7 => HWRAP.out O j k q t p h1 hlt h3 h4 h5 h6 h7)
      have HO2 : Hid (∀ z ∈ O, 0 ≤ z ∧ z ≤ 90071992547409920 * ((5 * j + 0 : Nat) : Int)) := HO.out
      generalize A.getD j 0 = x at hixa hxa HSTJ HWRJ
      clear hxaE HO HT
      go_wp2_with (first
        | (refine wpList_load_row rfl 44 _ rfl (n + 1) rfl 44 SB (0, 0) _ HI.out.b Try.underlying44 rfl HIB.out ?_)
        | fail)
      rename World => wo
      go_loopw [17] (fun i wr => ∃ (k : Nat) (O : List Int) (t : Int), k ≤ 5 ∧ i = .int .i64 k ∧ PrI w wr n SB O ∧ (∀ z ∈ O, 0 ≤ z ∧ z ≤ 90071992547409920 * ((5 * j + k : Nat) : Int)) ∧ Hid (num B26 O + t * P130 = V j k)) (fun i _ => 5 - (intOf i).toNat)
      case atStart => exact ⟨0, O, t, by omega, rfl, HI.out, HO2.out, HT2⟩
      case round =>
        clear HI HO2 HT2
        obtain ⟨k, O, t, hk, rfl, hi, ho, HT⟩ := hrel
        have HI := hidden hi
        have HO := hidden ho
        clear hi ho
        by_cases hkt : k < 5
        · have hixb := HIXB.out k hkt
          have hxb := HXB.out k hkt
          have HSTK := hidden (fun p h4 h6 => HSTJ.out O k t p HI.out.len hkt h4 HT.out h6)
          have HWRK := hidden (fun q p h4 h6 h7 => HWRJ.out O k q t p HI.out.len hkt h4 HT.out h6 h7)
          generalize B.getD k 0 = y at hixb hxb HSTK HWRK
          have hp := mul_lt x y 268435456 67108864 hxa hxb
          have c0 : (k : Int) < 5 := by omega
          have c1 : (0 : Int) ≤ (k : Int) := by omega
          have w0 : IntKind.u64.wrap (x * y) = x * y := by rw [IntKind.wrap_u64]; omega
          by_cases hpl : j + k < 5
          · have hcx := HI.out.o.cell (j + k) (by rw [HI.out.len]; exact hpl)
            have hfx := HI.out.o.fr (j + k)
            have hsx := HO.out (O.getD (j + k) 0) (by rw [List.getD_eq_getElem?_getD]; simp [show j + k < O.length by rw [HI.out.len]; exact hpl])
            have HS := hidden (HSTK.out (x * y) rfl hpl)
            generalize O.getD (j + k) 0 = s at hcx hsx HS
            have hnn : 0 ≤ s + x * y ∧ s + x * y ≤ 90071992547409920 * ((5 * j + (k + 1) : Nat) : Int) := by omega
            have HNN := hidden hnn
            have HNI := hidden (HI.out.set (j + k) (s + x * y))
            have w2 : IntKind.u64.wrap (s + x * y) = s + x * y := by rw [IntKind.wrap_u64]; omega
            have d0 : (j : Int) + (k : Int) < 5 := by omega
            have d1 : (0 : Int) ≤ (j : Int) + (k : Int) := by omega
            have d2 : ((j : Int) + (k : Int)).toNat = j + k := by omega
            clear hnn
            go_wp2
            go_roundw
            case rel =>
              refine ⟨k + 1, O.set (j + k) (s + x * y), t, by omega, by go_num, HNI.out, fun z hz => ?_, HS⟩
              rcases List.mem_or_eq_of_mem_set hz with hz | rfl
              · have := HO.out z hz; omega
              · exact HNN.out
            case measure => simp [intOf]; omega
          · obtain ⟨q, hq⟩ : ∃ q, j + k = q + 5 := ⟨j + k - 5, by omega⟩
            have hcx := HI.out.o.cell q (by rw [HI.out.len]; omega)
            have hfx := HI.out.o.fr q
            have hsx := HO.out (O.getD q 0) (by rw [List.getD_eq_getElem?_getD]; simp [show q < O.length by rw [HI.out.len]; omega])
            have HS := hidden (HWRK.out q (x * y) rfl hq (by omega))
            generalize O.getD q 0 = s at hcx hsx HS
            have hnn : 0 ≤ s + x * y * 5 ∧ s + x * y * 5 ≤ 90071992547409920 * ((5 * j + (k + 1) : Nat) : Int) := by omega
            have HNN := hidden hnn
            have HNI := hidden (HI.out.set q (s + x * y * 5))
            have w1 : IntKind.u64.wrap (x * y * 5) = x * y * 5 := by rw [IntKind.wrap_u64]; omega
            have w2 : IntKind.u64.wrap (s + x * y * 5) = s + x * y * 5 := by rw [IntKind.wrap_u64]; omega
            have d0 : ¬ ((j : Int) + (k : Int) < 5) := by omega
            have d1 : (j : Int) + (k : Int) - 5 = (q : Int) := by omega
            have d2 : (0 : Int) ≤ (q : Int) := by omega
            have d3 : (q : Int) < 5 := by omega
            have HQ := hidden hq
            clear hnn hq
            go_wp2
            go_roundw
            case rel =>
              refine ⟨k + 1, O.set q (s + x * y * 5), _, by omega, by go_num, HNI.out, fun z hz => ?_, HS⟩
              rcases List.mem_or_eq_of_mem_set hz with hz | rfl
              · have := HO.out z hz; omega
              · exact HNN.out
            case measure => simp [intOf]; omega
        · have hk5 : k = 5 := by omega
          have hge : ¬ (k : Int) < 5 := by omega
          have ht5 := HT.out
          rw [hk5] at ht5
          have HT5 := hidden (HVU.out j hlt _ _ ht5)
          have HO5 : Hid (∀ z ∈ O, 0 ≤ z ∧ z ≤ 90071992547409920 * ((5 * (j + 1) : Nat) : Int)) := fun z hz => by have := HO.out z hz; omega
          clear hk5 ht5 HT HO
          go_wp2
          go_roundw
          case rel => exact ⟨j + 1, O, t, by omega, by go_num, HI.out, HO5.out, HT5⟩
          case measure => simp [intOf]; omega
    · have hj5 : j = 5 := by omega
      have hge : ¬ (j : Int) < 5 := by omega
      have ht5 := HT.out
      rw [hj5, HUE.eq] at ht5
      have HT5 := hidden ht5
      have hO1 : ∀ x ∈ O, 0 ≤ x ∧ x < 4611686018427387904 := fun x hx => by have := HO.out x hx; omega
      obtain ⟨a, b, c, d, e, he⟩ := five O HI.out.len
      have hOv : 0 ≤ num B26 O ∧ num B26 O < (137438953471 + 1) * 1361129467683753853853498429727072845824 := by
        have ha := hO1 a (by rw [he]; simp)
        have hb := hO1 b (by rw [he]; simp)
        have hc := hO1 c (by rw [he]; simp)
        have hd := hO1 d (by rw [he]; simp)
        have he' := hO1 e (by rw [he]; simp)
        rw [he, num5]
        omega
      clear he
      have hl1 := carried_lm O 137438953471 hOv.1 hOv.2
      have hn1 := carried_num O
      have hC1 := carried_any O HI.out.len hO1 wr
      have h1all := hl1.all 4611686018427387904 (by omega) (by omega)
      generalize carriedL O = R1 at *
      obtain ⟨a, b, c, d, e, he⟩ := five R1 hl1.len
      have hRv : 0 ≤ num B26 R1 ∧ num B26 R1 < (1 + 1) * 1361129467683753853853498429727072845824 := by
        have k0 := hl1.fst
        have k1 := hl1.rest 1 (by omega) (by omega)
        have k2 := hl1.rest 2 (by omega) (by omega)
        have k3 := hl1.rest 3 (by omega) (by omega)
        have k4 := hl1.rest 4 (by omega) (by omega)
        rw [he] at k0 k1 k2 k3 k4 ⊢
        rw [num5]
        simp at k0 k1 k2 k3 k4
        omega
      clear he
      have hl2 := carried_lm R1 1 hRv.1 hRv.2
      have hn2 := carried_num R1
      have hC2 := fun W => carried_any R1 hl1.len h1all W
      generalize carriedL R1 = R at *
      have HEX : Hid (∃ t, num B26 R + t * P130 = NA) := ⟨t + num B26 O / 1361129467683753853853498429727072845824 + num B26 R1 / 1361129467683753853853498429727072845824, by have := HT5.out; rw [hn2, hn1]; grind⟩
      have HC1 := hidden hC1
      have HC2 := hidden hC2
      have HL2 := hidden hl2
      have HIO := hidden (infoL O HI.out.len)
      have HIR := hidden (infoL R hl2.len)
      have HZR : Hid ((ints .u64 (List.replicate 5 (0 : Int))).size = (ints .u64 R).size) := by show _ = _; rw [ints_size, ints_size, hl2.len]; rfl
      clear hj5 ht5 HT hO1 hOv hl1 hn1 hC1 h1all hRv hl2 hn2 hC2 HT5
      go_wp2_with (first
        | (refine wpList_load_row rfl 44 _ rfl (n + 1 + 1 + 1) rfl 44 _ (0, 0) _ HI.out.o.heap Try.underlying44 rfl HIO.out ?_)
        | (go_at_call 30; (with_reducible refine (HC1.out).mono ?_); rintro e4 w4 ⟨rfl, hb4⟩; have HZ4 := hidden (HI.out.z.below hb4); have HB4 := hidden (HI.out.bel.trans (hb4.mono (Nat.le_of_lt (Nat.lt_of_le_of_lt (by omega) HI.out.z.lt)))); clear hb4)
        | (go_at_call 30; (with_reducible refine (HC2.out w4).mono ?_); rintro e5 w5 ⟨rfl, hb5⟩; have HZ5 := hidden (HZ4.out.below hb5); have HB5 := hidden (HB4.out.trans (hb5.mono (Nat.le_of_lt (Nat.lt_of_le_of_lt (by omega) HZ4.out.lt)))); clear hb5)
        | (refine wpList_store_row rfl 44 _ _ rfl (n + 1 + 1) (ints .u64 R) rfl rfl 44 _ HZ5.out.heap HIR.out HZR.out (onek .u64 R) ?_)
        | fail)
      refine bodyPost_ret (results_cell_row rfl _ _ (n + 1 + 1) 44 _ _ _ rfl (HZ5.out.row R).heap Try.underlying44 rfl HIR.out) rfl ?_
      exact ⟨R, rfl, HL2.out, HEX.out, by rw [HN.out]; exact below_setRow HB5.out (by omega) _⟩
end Go.Proofs.Ytnbpangegegccaa
