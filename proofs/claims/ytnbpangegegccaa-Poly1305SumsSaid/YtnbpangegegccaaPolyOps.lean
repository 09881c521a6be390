/-
  poly1305.marked and poly1305.sum.
-/
import Derived.Test.YtnbpangegegccaaPolyNum
namespace Go.Proofs.Ytnbpangegegccaa
open Go.RowKit
set_option linter.unusedVariables false

theorem heap_2nd (w : World) (o : Obj) (S : Array Value) (t : TypeId) (p : Obj) : (((w.alloc o).alloc (.cells S t)).alloc p).heap[w.heap.size + 1]? = some (.cells S t (0, 0)) := by
  have := heap_1st (w.alloc o) S t p
  rwa [World.size_alloc] at this
/-- The mark above a piece. -/
theorem num_mark (n : Nat) (hn : n ≤ 16) (L : List Int) (hL : L.length = 5) : num B26 (L.set (8 * n / 26) (L.getD (8 * n / 26) 0 + 2 ^ (8 * n % 26))) = num B26 L + 256 ^ n := by
  rw [num_set _ _ _ (by omega)]
  have : n = 0 ∨ n = 1 ∨ n = 2 ∨ n = 3 ∨ n = 4 ∨ n = 5 ∨ n = 6 ∨ n = 7 ∨ n = 8 ∨ n = 9 ∨ n = 10 ∨ n = 11 ∨ n = 12 ∨ n = 13 ∨ n = 14 ∨ n = 15 ∨ n = 16 := by omega
  unfold B26
  rcases this with rfl | rfl | rfl | rfl | rfl | rfl | rfl | rfl | rfl | rfl | rfl | rfl | rfl | rfl | rfl | rfl | rfl <;> simp
theorem Lm.set {u v : Int} {L : List Int} (h : Lm u v L) (m : Int) (hu : u ≤ m) (hv : v ≤ m) (j : Nat) (x : Int) (hx : 0 ≤ x ∧ x < m) : Lm m m (L.set j x) := by
  have hl : (L.set j x).length = 5 := by rw [List.length_set, h.len]
  have ha := h.all m hu hv
  have key : ∀ i, i < 5 → 0 ≤ (L.set j x).getD i 0 ∧ (L.set j x).getD i 0 < m := fun i hi => by
    have hmem : (L.set j x).getD i 0 ∈ L.set j x := by
      rw [List.getD_eq_getElem?_getD, List.getElem?_eq_getElem (by omega)]
      exact List.getElem_mem (by omega)
    rcases List.mem_or_eq_of_mem_set hmem with h1 | h1
    · exact ha _ h1
    · rw [h1]; exact hx
  exact ⟨hl, key 0 (by omega), fun i _ hi => key i hi⟩

set_option maxHeartbeats 1600000 in
set_option maxRecDepth 100000 in
theorem marked_any (p : Option Addr) (n c : Nat) (xs : List Int) (w : World) (h : Byt w p n c xs) (hn : n ≤ 16) :
    Calls Try.prog 21 #[.slice p n c] w fun e w' => ∃ L, e = .returned (.agg (ints .u64 L)) ∧ Lm 134217728 134217728 L ∧ num B26 L = markS xs ∧ Below w.heap.size w w' := by
  have HLN := Is.mk h.len
  have hcap := h.cap
  have hbig := h.le
  obtain ⟨g, hg⟩ : ∃ g, w.heap.size = g := ⟨_, rfl⟩
  have HCC := hidden (fun W (hW : Below g w W) => numberOf_any p n c xs W (h.below (by rw [hg]; exact hW)) hn)
  clear h
  have HZ0 : Hid (Wn .u64 (w.alloc (.cells #[.int .u64 0, .int .u64 0, .int .u64 0, .int .u64 0, .int .u64 0] 44)) g 44 (List.replicate 5 0)) := hidden (Wn.new' .u64 w 44 (List.replicate 5 0) _ rfl _ hg)
  have HB0 : Hid (Below g w (w.alloc (.cells #[.int .u64 0, .int .u64 0, .int .u64 0, .int .u64 0, .int .u64 0] 44))) := by
    rw [← hg]
    exact hidden ((Below.refl _ w).alloc (Nat.le_refl _) _)
  go_enter Try.func21, Try.ntmps21
  have HG := hidden hg
  go_upto_region 2 with (first
    | (go_at_call 17; (with_reducible refine (HCC.out _ HB0.out).mono ?_); rintro e w4 ⟨L, rfl, hl, hv, hb4⟩; have HZ4 := hidden (HZ0.out.below hb4); have HB4 := hidden (HB0.out.trans (hb4.mono (Nat.le_of_lt HZ0.out.lt))); have HL := hidden hl; have HV := Is.mk hv; have HIL := hidden (infoL L hl.len); have HZL : Hid ((ints .u64 (List.replicate 5 (0 : Int))).size = (ints .u64 L).size) := (show _ = _ by rw [ints_size, ints_size, hl.len]; rfl); clear hb4 hl hv)
    | (refine wpList_store_row rfl 44 _ _ rfl w4.heap.size (ints .u64 L) rfl rfl 44 _ (heap_alloc_new w4 _) HIL.out HZL.out (onek .u64 L) ?_)
    | fail)
  obtain ⟨m, hm⟩ : ∃ m, w4.heap.size = m := ⟨_, rfl⟩
  have hgm : g < m := by have := HZ4.out.lt; omega
  generalize hw5 : World.setRow (w4.alloc (.cells _ 44)) w4.heap.size (ints .u64 L) = w5
  simp only [hm] at hw5 ⊢
  have HA5 : Hid (Wn .u64 w5 m 44 L) := by
    rw [← hw5]
    exact hidden ((Wn.new' .u64 w4 44 (List.replicate 5 0) _ rfl m hm).row L)
  have HZ5 : Hid (Wn .u64 w5 g 44 (List.replicate 5 0)) := by
    rw [← hw5]
    exact hidden ((HZ4.out.alloc _).rowOther _ _ (by omega))
  have HB5 : Hid (Below g w w5) := by
    rw [← hw5]
    exact hidden (below_setRow (HB4.out.alloc (by omega) _) (by omega) _)
  have HM := hidden hm
  clear hw5 hm HZ4 HB4 HZ0 HB0 HCC HZL
  have hcx := HA5.out.cell (8 * n / 26) (by rw [HL.out.len]; omega)
  have hfx := HA5.out.fr (8 * n / 26)
  have hsx := HL.out.all 67108864 (Int.le_refl _) (Int.le_refl _) (L.getD (8 * n / 26) 0) (by rw [List.getD_eq_getElem?_getD]; simp [show 8 * n / 26 < L.length by rw [HL.out.len]; omega])
  have HST := Is.mk (num_mark n hn L HL.out.len)
  generalize L.getD (8 * n / 26) 0 = s at *
  have hps := pow_small (8 * n % 26) (by omega)
  have w0 : IntKind.u64.wrap (2 ^ (8 * n % 26)) = 2 ^ (8 * n % 26) := by rw [IntKind.wrap_u64]; omega
  have w1 : IntKind.u64.wrap (s + 2 ^ (8 * n % 26)) = s + 2 ^ (8 * n % 26) := by rw [IntKind.wrap_u64]; omega
  have HPS := hidden hps
  have HLS := hidden (HL.out.set 134217728 (by omega) (by omega) (8 * n / 26) (s + 2 ^ (8 * n % 26)) (by omega))
  have HSX := hidden hsx
  clear hps hsx
  go_region
  have HA6 : Hid (Wn .u64 ((w5.setCell ⟨m, 8 * n / 26, none⟩ (.int .u64 (s + 2 ^ (8 * n % 26)))).drew) m 44 (L.set (8 * n / 26) (s + 2 ^ (8 * n % 26)))) := (HA5.out.set _ _).drew
  have HZ6 : Hid (Wn .u64 ((w5.setCell ⟨m, 8 * n / 26, none⟩ (.int .u64 (s + 2 ^ (8 * n % 26)))).drew) g 44 (List.replicate 5 0)) := (HZ5.out.other _ _ (by simp; omega)).drew
  have HB6 : Hid (Below g w ((w5.setCell ⟨m, 8 * n / 26, none⟩ (.int .u64 (s + 2 ^ (8 * n % 26)))).drew)) := (HB5.out.setCell (by simp; omega) _).drew
  clear w0 w1 hcx hfx
  generalize s + 2 ^ (8 * n % 26) = d at *
  generalize World.drew _ = w6 at *
  generalize L.set (8 * n / 26) d = R at *
  have HIR := hidden (infoL R HLS.out.len)
  have HZR : Hid ((ints .u64 (List.replicate 5 (0 : Int))).size = (ints .u64 R).size) := by show _ = _; rw [ints_size, ints_size, HLS.out.len]; rfl
  go_wp2_with (first
    | (refine wpList_load_row rfl 44 _ rfl m rfl 44 _ (0, 0) _ HA6.out.heap Try.underlying44 rfl HIR.out ?_)
    | (refine wpList_store_row rfl 44 _ _ rfl g (ints .u64 R) rfl rfl 44 _ HZ6.out.heap HIR.out HZR.out (onek .u64 R) ?_)
    | fail)
  refine bodyPost_ret (results_cell_row rfl _ _ g 44 _ _ _ rfl (HZ6.out.row R).heap Try.underlying44 rfl HIR.out) rfl ?_
  exact ⟨R, rfl, HLS.out, by rw [HST.eq, HV.eq, markS, HLN.eq], by rw [HG.out]; exact below_setRow HB6.out (Nat.le_refl _) _⟩

/-- Limb by limb. -/
def addL (A B : List Int) : List Int := List.zipWith (· + ·) A B
theorem addL_len (A B : List Int) : (addL A B).length = min A.length B.length := by simp [addL]
theorem addL_num (b : Int) (A B : List Int) (h : A.length = B.length) : num b (addL A B) = num b A + num b B := by
  induction A generalizing B with
  | nil => cases B with
    | nil => rfl
    | cons y B => simp at h
  | cons x A ih => cases B with
    | nil => simp at h
    | cons y B =>
      have := ih B (by simpa using h)
      simp only [addL, List.zipWith_cons_cons, num] at this ⊢
      rw [this]
      grind
theorem Lm.add {u v u' v' : Int} {A B : List Int} (h : Lm u v A) (h' : Lm u' v' B) : Lm (u + u') (v + v') (addL A B) := by
  obtain ⟨a, b, c, d, e, rfl⟩ := five A h.len
  obtain ⟨a', b', c', d', e', rfl⟩ := five B h'.len
  have k0 := h.fst
  have k1 := h.rest 1 (by omega) (by omega)
  have k2 := h.rest 2 (by omega) (by omega)
  have k3 := h.rest 3 (by omega) (by omega)
  have k4 := h.rest 4 (by omega) (by omega)
  have l0 := h'.fst
  have l1 := h'.rest 1 (by omega) (by omega)
  have l2 := h'.rest 2 (by omega) (by omega)
  have l3 := h'.rest 3 (by omega) (by omega)
  have l4 := h'.rest 4 (by omega) (by omega)
  simp at k0 k1 k2 k3 k4 l0 l1 l2 l3 l4
  simp only [addL, List.zipWith_cons_cons, List.zipWith_nil_left]
  exact Lm.of _ _ _ _ _ _ _ (by omega) (by omega) (by omega) (by omega) (by omega)
/-- The first j limbs are added. -/
def midA (A B : List Int) (j : Nat) : List Int := addL (A.take j) (B.take j) ++ A.drop j
theorem midA_zero (A B : List Int) : midA A B 0 = A := by simp [midA, addL]
theorem midA_len (A B : List Int) (j : Nat) (h : A.length = B.length) (hj : j ≤ A.length) : (midA A B j).length = A.length := by simp [midA, addL_len]; omega
theorem midA_get (A B : List Int) (j : Nat) (h : A.length = B.length) (hj : j < A.length) : (midA A B j).getD j 0 = A.getD j 0 := by
  unfold midA
  exact getD_mid _ _ _ (by rw [addL_len]; simp; omega)
theorem midA_succ (A B : List Int) (j : Nat) (h : A.length = B.length) (hj : j < A.length) : (midA A B j).set j (A.getD j 0 + B.getD j 0) = midA A B (j + 1) := by
  unfold midA
  rw [set_mid _ _ _ _ (by rw [addL_len]; simp; omega) hj]
  congr 1
  unfold addL
  rw [List.take_succ_eq_append_getElem hj, List.take_succ_eq_append_getElem (show j < B.length by omega), List.zipWith_append (by simp; omega)]
  simp [List.getD_eq_getElem?_getD, hj, show j < B.length by omega]
theorem midA_end (A B : List Int) (h : A.length = B.length) : midA A B A.length = addL A B := by
  unfold midA
  rw [List.drop_length, List.append_nil, List.take_length, h, List.take_length]

set_option maxHeartbeats 1600000 in
set_option maxRecDepth 100000 in
theorem sum_any (A B : List Int) (hA : A.length = 5) (hB : B.length = 5) (hrA : ∀ x ∈ A, 0 ≤ x ∧ x < 4611686018427387904) (hrB : ∀ x ∈ B, 0 ≤ x ∧ x < 4611686018427387904) (w : World) :
    Calls Try.prog 20 #[.agg (ints .u64 A), .agg (ints .u64 B)] w fun e w' => e = .returned (.agg (ints .u64 (addL A B))) ∧ Below w.heap.size w w' := by
  obtain ⟨i0, hi0, hz0, hz1, hz2⟩ := info_parts infoU64
  have HIX := hidden (fun (j : Nat) (hj : j < 5) (w' : World) => run_indexN (k := .u64) (P := Try.prog) Try.underlying44 Try.underlying42 hi0 hz1 B hB j hj w')
  have HIB := hidden (infoL B hB)
  obtain ⟨R, hR⟩ : ∃ R, addL A B = R := ⟨_, rfl⟩
  have hRl : R.length = 5 := by rw [← hR, addL_len]; omega
  have HIR := hidden (infoL R hRl)
  have HZR : Hid ((ints .u64 (List.replicate 5 (0 : Int))).size = (ints .u64 R).size) := by show _ = _; rw [ints_size, ints_size, hRl]; rfl
  have HONER := hidden (onek .u64 R)
  have HM0 := Is.mk (midA_zero A B)
  have HML := hidden (fun j (hj : j ≤ 5) => midA_len A B j (by omega) (by omega))
  have HMS := hidden (fun j (hj : j < 5) => midA_succ A B j (by omega) (by omega))
  have HMG := hidden (fun j (hj : j < 5) => midA_get A B j (by omega) (by omega))
  have hme := midA_end A B (by omega)
  rw [hA] at hme
  have HME := Is.mk hme
  have HXA := hidden (fun j (hj : j < 5) => hrA (A.getD j 0) (by rw [List.getD_eq_getElem?_getD]; simp [show j < A.length by omega]))
  have HXB := hidden (fun j (hj : j < 5) => hrB (B.getD j 0) (by rw [List.getD_eq_getElem?_getD]; simp [show j < B.length by omega]))
  have HAL := Is.mk hA
  rw [hR] at HME ⊢
  clear hi0 hz0 hz1 hz2 hRl hR hA hB hrA hrB hme
  generalize hS : ints .u64 B = S at HIX HIB ⊢
  have HSS := Is.mk hS
  clear hS
  go_enter Try.func20, Try.ntmps20
  go_wp2_with (first
    | (refine wpList_load_row rfl 44 _ rfl (w.heap.size + 1) rfl 44 S (0, 0) _ (heap_2nd _ _ _ _ _) Try.underlying44 rfl HIB.out ?_)
    | fail)
  generalize hw1 : World.alloc _ (.cells _ 44) = w1
  have hA : Wn .u64 w1 w.heap.size 44 (midA A B 0) := by
    rw [← hw1, HM0.eq]
    exact ((Wn.new .u64 w 44 A _ rfl).alloc _).alloc _
  have hZ : Wn .u64 w1 (w.heap.size + 1 + 1) 44 (List.replicate 5 0) := by
    rw [← hw1]
    exact Wn.new' .u64 _ 44 (List.replicate 5 0) _ rfl _ (by simp)
  have hb : Below w.heap.size w w1 := by
    rw [← hw1]
    exact (((Below.refl _ w).alloc (Nat.le_refl _) _).alloc (by simp) _).alloc (by simp; omega) _
  clear hw1
  obtain ⟨n, hn⟩ : ∃ n, w.heap.size = n := ⟨_, rfl⟩
  simp only [hn] at hA hZ hb ⊢
  have HN := hidden hn
  have HA0 := hidden hA
  have HZ0 := hidden hZ
  have HB0 := hidden hb
  clear hA hZ hb hn
  go_loopw [8] (fun i wr => ∃ j : Nat, j ≤ 5 ∧ i = .int .i64 j ∧ Wn .u64 wr n 44 (midA A B j) ∧ Wn .u64 wr (n + 1 + 1) 44 (List.replicate 5 0) ∧ Below n w wr) (fun i _ => 5 - (intOf i).toNat)
  case atStart => exact ⟨0, by omega, rfl, HA0.out, HZ0.out, HB0.out⟩
  case round =>
    obtain ⟨j, hj, rfl, ha, hz, hb⟩ := hrel
    have HA := hidden ha
    have HZ := hidden hz
    have HB := hidden hb
    clear ha hz hb HA0 HZ0 HB0
    by_cases hlt : j < 5
    · have hix := HIX.out j hlt
      have hxa := HXA.out j hlt
      have hxb := HXB.out j hlt
      have HS1 := Is.mk (HMS.out j hlt)
      have hfx := HA.out.fr j
      have hcx := HA.out.cell j (by rw [HML.out j hj, HAL.eq]; exact hlt)
      rw [HMG.out j hlt] at hcx
      generalize A.getD j 0 = x at hix hxa HS1 hcx
      generalize B.getD j 0 = y at hix hxb HS1
      have wr0 : IntKind.u64.wrap (x + y) = x + y := by rw [IntKind.wrap_u64]; omega
      have b0 : (j : Int) < 5 := by omega
      have b1 : (0 : Int) ≤ (j : Int) := by omega
      go_wp2
      go_roundw
      case rel => exact ⟨j + 1, by omega, by go_num, by rw [← HS1.eq]; exact HA.out.set j _, HZ.out.other _ _ (by simp; omega), HB.out.setCell (Nat.le_refl _) _⟩
      case measure => simp [intOf]; omega
    · have hj5 : j = 5 := by omega
      have hge : ¬ (j : Int) < 5 := by omega
      have hae := HA.out
      rw [hj5, HME.eq] at hae
      have HE := hidden hae
      clear hj5 hae HA
      have HRR := hidden (HZ.out.row R)
      have HBR := hidden (below_setRow HB.out (show n ≤ n + 1 + 1 by omega) (ints .u64 R))
      go_wp2_with (first
        | (refine wpList_load_row rfl 44 _ rfl n rfl 44 _ (0, 0) _ HE.out.heap Try.underlying44 rfl HIR.out ?_)
        | (refine wpList_store_row rfl 44 _ _ rfl (n + 1 + 1) (ints .u64 R) rfl rfl 44 _ HZ.out.heap HIR.out HZR.out HONER.out ?_)
        | fail)
      refine bodyPost_ret (results_cell_row rfl _ _ (n + 1 + 1) 44 _ _ _ rfl HRR.out.heap Try.underlying44 rfl HIR.out) rfl ?_
      exact ⟨rfl, by rw [HN.out]; exact HBR.out⟩
end Go.Proofs.Ytnbpangegegccaa
