/-
  poly1305.factor: the number r.
-/
import Derived.Test.YtnbpangegegccaaPolyOps
import Derived.Laws.CopyOwn
namespace Go.Proofs.Ytnbpangegegccaa
open Go.RowKit
set_option linter.unusedVariables false

theorem infoB16 : (Try.prog.info? 61).map (·.size) = some 16 := by kernel_rfl
theorem Wb.setP {w : World} {g : Nat} {t : TypeId} {l : List Int} (h : Wb w g t l) (j : Nat) (v : Int) : Wb (w.setCell ⟨g, j, none⟩ (.int .u8 v)) g t (l.set j v) := by
  constructor
  rw [heap_setCell_same w g j _ _ _ h.heap]
  simp [List.map_set]
/-- A list made element by element. -/
def mk16 (xs : List Int) (f : Nat → Int → Int) : List Int := (List.range 16).map (fun i => f i (xs.getD i 0))
theorem mk16_len (xs : List Int) (f : Nat → Int → Int) : (mk16 xs f).length = 16 := by simp [mk16]
theorem mk16_get (xs : List Int) (f : Nat → Int → Int) (i : Nat) (hi : i < 16) : (mk16 xs f).getD i 0 = f i (xs.getD i 0) := by
  simp [mk16, List.getD_eq_getElem?_getD, hi]
theorem list_ext (l m : List Int) (n : Nat) (hl : l.length = n) (hm : m.length = n) (h : ∀ i, i < n → l.getD i 0 = m.getD i 0) : l = m := by
  refine List.ext_getElem (by omega) (fun i h1 h2 => ?_)
  have := h i (by omega)
  simpa [List.getD_eq_getElem?_getD, h1, h2] using this
theorem getD_setP (l : List Int) (k i : Nat) (v : Int) (hi : i < l.length) : (l.set k v).getD i 0 = if i = k then v else l.getD i 0 := by
  rw [List.getD_eq_getElem?_getD, List.getElem?_set]
  by_cases h : k = i
  · subst h; simp [hi]
  · rw [if_neg h, if_neg (fun e => h e.symm), List.getD_eq_getElem?_getD]
theorem mk16_set (xs : List Int) (f f' : Nat → Int → Int) (k : Nat) (v : Int) (h : ∀ i, i < 16 → f' i (xs.getD i 0) = if i = k then v else f i (xs.getD i 0)) : (mk16 xs f).set k v = mk16 xs f' := by
  refine list_ext _ _ 16 (by rw [List.length_set, mk16_len]) (mk16_len _ _) (fun i hi => ?_)
  rw [getD_setP _ _ _ _ (by rw [mk16_len]; exact hi), mk16_get _ _ _ hi, mk16_get _ _ _ hi, h i hi]
def cl1 (j i : Nat) (x : Int) : Int := if i % 4 = 3 ∧ i < 3 + 4 * j then x % 16 else x
def cl2 (j i : Nat) (x : Int) : Int := if i % 4 = 3 then x % 16 else if i % 4 = 0 ∧ 0 < i ∧ i < 4 + 4 * j then x - x % 4 else x
theorem cl1_zero (xs : List Int) (h : xs.length = 16) : mk16 xs (cl1 0) = xs := by
  refine list_ext _ _ 16 (mk16_len _ _) h (fun i hi => ?_)
  rw [mk16_get _ _ _ hi, cl1, if_neg (by omega)]
theorem cl1_succ (xs : List Int) (j : Nat) (hj : j < 4) : (mk16 xs (cl1 j)).set (3 + 4 * j) (xs.getD (3 + 4 * j) 0 % 16) = mk16 xs (cl1 (j + 1)) := by
  refine mk16_set _ _ _ _ _ (fun i hi => ?_)
  unfold cl1
  by_cases h : i = 3 + 4 * j
  · subst h; rw [if_pos (by omega), if_pos rfl]
  · rw [if_neg h]
    by_cases h2 : i % 4 = 3 ∧ i < 3 + 4 * j
    · rw [if_pos (by omega), if_pos h2]
    · rw [if_neg (by omega), if_neg h2]
theorem cl2_zero (xs : List Int) : mk16 xs (cl1 4) = mk16 xs (cl2 0) := by
  refine list_ext _ _ 16 (mk16_len _ _) (mk16_len _ _) (fun i hi => ?_)
  rw [mk16_get _ _ _ hi, mk16_get _ _ _ hi, cl1, cl2]
  by_cases h : i % 4 = 3
  · rw [if_pos (by omega), if_pos h]
  · rw [if_neg (by omega), if_neg h, if_neg (by omega)]
theorem cl2_succ (xs : List Int) (j : Nat) (hj : j < 3) : (mk16 xs (cl2 j)).set (4 + 4 * j) (xs.getD (4 + 4 * j) 0 - xs.getD (4 + 4 * j) 0 % 4) = mk16 xs (cl2 (j + 1)) := by
  refine mk16_set _ _ _ _ _ (fun i hi => ?_)
  unfold cl2
  by_cases h : i = 4 + 4 * j
  · subst h; rw [if_neg (by omega), if_pos (by omega), if_pos rfl]
  · rw [if_neg h]
    by_cases h3 : i % 4 = 3
    · rw [if_pos h3, if_pos h3]
    · rw [if_neg h3, if_neg h3]
      by_cases h2 : i % 4 = 0 ∧ 0 < i ∧ i < 4 + 4 * j
      · rw [if_pos (by omega), if_pos h2]
      · rw [if_neg (by omega), if_neg h2]
theorem clampL_get (xs : List Int) (n i : Nat) (hi : i < n) : (clampL xs n).getD i 0 = clampI i (xs.getD i 0) := by
  induction n with
  | zero => omega
  | succ n ih =>
    rw [clampL, List.getD_eq_getElem?_getD]
    by_cases h : i < n
    · rw [List.getElem?_append_left (by rw [clampL_len]; exact h), ← List.getD_eq_getElem?_getD, ih h]
    · have : i = n := by omega
      subst this
      rw [List.getElem?_append_right (by rw [clampL_len]; exact Nat.le_refl _), clampL_len]
      simp
theorem cl2_end (xs : List Int) : mk16 xs (cl2 3) = clampL xs 16 := by
  refine list_ext _ _ 16 (mk16_len _ _) (clampL_len _ _) (fun i hi => ?_)
  rw [mk16_get _ _ _ hi, clampL_get _ _ _ hi, cl2, clampI]
  by_cases h : i % 4 = 3
  · rw [if_pos h, if_pos h]
  · rw [if_neg h, if_neg h]
    by_cases h2 : i % 4 = 0 ∧ 0 < i
    · rw [if_pos h2, if_pos (by omega)]
    · rw [if_neg h2, if_neg (by omega)]
theorem clampL_rng (xs : List Int) (n : Nat) (h : ∀ i, 0 ≤ xs.getD i 0 ∧ xs.getD i 0 ≤ 255) : ∀ x ∈ clampL xs n, 0 ≤ x ∧ x ≤ 255 := by
  induction n with
  | zero => intro x hx; cases hx
  | succ n ih =>
    intro x hx
    rw [clampL] at hx
    rcases List.mem_append.1 hx with hx | hx
    · exact ih x hx
    · simp at hx
      subst hx
      exact clampI_rng _ _ (h n)
theorem andNot3 (x : Int) (h0 : 0 ≤ x) (h1 : x ≤ 255) : bits .andNot .u8 x 3 = x - x % 4 := by
  have : ∀ n : Fin 256, bits .andNot .u8 (n.val : Int) 3 = (n.val : Int) - (n.val : Int) % 4 := by decide +kernel
  have h := this ⟨x.toNat, by omega⟩
  simp only at h
  rwa [show ((x.toNat : Nat) : Int) = x by omega] at h
theorem and15 (x : Int) (h0 : 0 ≤ x) (h1 : x ≤ 255) : bits .and .u8 x 15 = x % 16 := u8_and15 x h0 (by omega)

set_option maxHeartbeats 1600000 in
set_option maxRecDepth 100000 in
theorem factor_any (p : Option Addr) (c : Nat) (xs : List Int) (w : World) (h : Byt w p 16 c xs) :
    Calls Try.prog 16 #[.slice p 16 c] w fun e w' => ∃ L, e = .returned (.agg (ints .u64 L)) ∧ Lm 67108864 67108864 L ∧ num B26 L = num 256 (clampL xs 16) ∧ Below w.heap.size w w' := by
  obtain ⟨i0, hi0, hz0, hz1, hz2⟩ := info_parts Try.infoByte
  have hXl := h.len
  have hXr := h.rng
  have HXL := Is.mk hXl
  have HXR := hidden (fun j => rng_getD hXr j)
  have HZ10 := Is.mk (cl1_zero xs hXl)
  have HS1 := hidden (cl1_succ xs)
  have HZ20 := Is.mk (cl2_zero xs)
  have HS2 := hidden (cl2_succ xs)
  have HE2 := Is.mk (cl2_end xs)
  have HRC := hidden (clampL_rng xs 16 (fun j => rng_getD hXr j))
  have HM := hidden (mk16_len xs)
  have HG1 := hidden (fun (j : Nat) (hj : j < 4) => (show (mk16 xs (cl1 j)).getD (3 + 4 * j) 0 = xs.getD (3 + 4 * j) 0 by rw [mk16_get _ _ _ (by omega), cl1, if_neg (by omega)]))
  have HG2 := hidden (fun (j : Nat) (hj : j < 3) => (show (mk16 xs (cl2 j)).getD (4 + 4 * j) 0 = xs.getD (4 + 4 * j) 0 by rw [mk16_get _ _ _ (by omega), cl2, if_neg (by omega), if_neg (by omega)]))
  have HX := hidden (fun W (hW : Below w.heap.size w W) => h.below hW)
  have hcap := h.cap
  clear h hXl hXr
  go_enter Try.func16, Try.ntmps16
  go_upto_region 2 with fail
  generalize hw1 : World.alloc _ (.cells _ 61) = w1
  have hZ : Wn .u64 w1 w.heap.size 44 (List.replicate 5 0) := by
    rw [← hw1]
    exact (Wn.new .u64 w 44 (List.replicate 5 0) _ rfl).alloc _
  have hA : Wb w1 (w.heap.size + 1) 61 (List.replicate 16 0) := by
    rw [← hw1]
    have := Wb.new (w.alloc (.cells #[.int .u64 0, .int .u64 0, .int .u64 0, .int .u64 0, .int .u64 0] 44)) 61 (List.replicate 16 0) _ rfl
    rw [World.size_alloc] at this
    exact this
  have hb : Below w.heap.size w w1 := by
    rw [← hw1]
    exact ((Below.refl _ w).alloc (Nat.le_refl _) _).alloc (by simp) _
  clear hw1
  have HX1 := hidden (HX.out w1 hb)
  obtain ⟨g, hg⟩ : ∃ g, w.heap.size = g := ⟨_, rfl⟩
  simp only [hg] at hA hZ hb ⊢
  have HG := hidden hg
  have HA0 := hidden hA
  have HZ0 := hidden hZ
  have HB0 := hidden hb
  clear hA hZ hb hg
  go_upto_region 3 with (first
    | (refine wpList_copy_row rfl _ _ _ _ rfl 5 Try.underlying22 (by rw [hi0]; simp [hz1]) (g + 1) 16 16 rfl (List.replicate 16 0) 61 HA0.out.heap (by simp) p 16 c xs rfl HX1.out (Nat.le_refl _) xs (by simp) ?_)
    | fail)
  intro w2 HA2 HGR
  have HZ2 := hidden (HZ0.out.grown HGR.out (by simp))
  have HB2 := hidden (HB0.out.grown HGR.out (Nat.le_of_lt HZ0.out.lt) (fun k e => by cases e; omega))
  clear HA0 HZ0 HB0 HGR HX1
  go_wp2
  go_loopw [4] (fun i wr => ∃ j : Nat, j ≤ 4 ∧ i = .int .i64 ((3 + 4 * j : Nat) : Int) ∧ Wb wr (g + 1) 61 (mk16 xs (cl1 j)) ∧ Wn .u64 wr g 44 (List.replicate 5 0) ∧ Below g w wr) (fun i _ => 24 - (intOf i).toNat)
  case atStart => exact ⟨0, by omega, rfl, by rw [HZ10.eq]; exact HA2.out, HZ2.out, HB2.out⟩
  case round =>
    obtain ⟨j, hj, rfl, ha, hz, hb⟩ := hrel
    have HA := hidden ha
    have HZ := hidden hz
    have HB := hidden hb
    clear ha hz hb HA2 HZ2 HB2
    by_cases hlt : j < 4
    · have hcx := HA.out.cell (3 + 4 * j) (by rw [HM.out]; omega)
      have hfx := HA.out.fr (3 + 4 * j)
      have hs1 := HS1.out j hlt
      have hrx := HXR.out (3 + 4 * j)
      rw [HG1.out j hlt] at hcx
      generalize xs.getD (3 + 4 * j) 0 = x at *
      have HS := Is.mk hs1
      have han := and15 x hrx.1 hrx.2
      have b0 : ((3 + 4 * j : Nat) : Int) < 16 := by omega
      have b1 : (0 : Int) ≤ ((3 + 4 * j : Nat) : Int) := by omega
      clear hs1
      obtain ⟨k, hk⟩ : ∃ k, 3 + 4 * j = k := ⟨_, rfl⟩
      have HK := Is.mk hk
      simp only [hk] at hcx hfx b0 b1 HS ⊢
      clear hk
      go_wp2
      go_roundw
      case rel => exact ⟨j + 1, by omega, by have := HK.eq; go_num, by rw [← HS.eq]; exact HA.out.setP k _, HZ.out.other _ _ (by simp), HB.out.setCell (by simp) _⟩
      case measure => simp [intOf]; omega
    · have hj4 : j = 4 := by omega
      have hge : ¬ ((3 + 4 * j : Nat) : Int) < 16 := by omega
      have hae := HA.out
      rw [hj4, HZ20.eq] at hae
      have HA3 := hidden hae
      clear hj4 hae HA
      go_wp2
      go_loopw [5] (fun i wr => ∃ j : Nat, j ≤ 3 ∧ i = .int .i64 ((4 + 4 * j : Nat) : Int) ∧ Wb wr (g + 1) 61 (mk16 xs (cl2 j)) ∧ Wn .u64 wr g 44 (List.replicate 5 0) ∧ Below g w wr) (fun i _ => 24 - (intOf i).toNat)
      case atStart => exact ⟨0, by omega, rfl, HA3.out, HZ.out, HB.out⟩
      case round =>
        obtain ⟨j, hj, rfl, ha, hz, hb⟩ := hrel
        have HAA := hidden ha
        have HZZ := hidden hz
        have HBB := hidden hb
        clear ha hz hb HA3 HZ HB
        by_cases hlt : j < 3
        · have hcx := HAA.out.cell (4 + 4 * j) (by rw [HM.out]; omega)
          have hfx := HAA.out.fr (4 + 4 * j)
          have hs1 := HS2.out j hlt
          have hrx := HXR.out (4 + 4 * j)
          rw [HG2.out j hlt] at hcx
          generalize xs.getD (4 + 4 * j) 0 = x at *
          have HS := Is.mk hs1
          have han := andNot3 x hrx.1 hrx.2
          have b0 : ((4 + 4 * j : Nat) : Int) < 16 := by omega
          have b1 : (0 : Int) ≤ ((4 + 4 * j : Nat) : Int) := by omega
          clear hs1
          obtain ⟨k, hk⟩ : ∃ k, 4 + 4 * j = k := ⟨_, rfl⟩
          have HK := Is.mk hk
          simp only [hk] at hcx hfx b0 b1 HS ⊢
          clear hk
          go_wp2
          go_roundw
          case rel => exact ⟨j + 1, by omega, by have := HK.eq; go_num, by rw [← HS.eq]; exact HAA.out.setP k _, HZZ.out.other _ _ (by simp), HBB.out.setCell (by simp) _⟩
          case measure => simp [intOf]; omega
        · have hj3 : j = 3 := by omega
          have hge3 : ¬ ((4 + 4 * j : Nat) : Int) < 16 := by omega
          have hae := HAA.out
          rw [hj3, HE2.eq] at hae
          have hby := hae.byt 16 (clampL_len _ _) (by decide) HRC.out
          have HC := hidden (numberOf_any _ 16 16 _ wr hby (by omega))
          clear hj3 hae HAA hby
          go_wp2_with (first
            | (go_at_call 17; (with_reducible refine (HC.out).mono ?_); rintro e w4 ⟨R, rfl, hl, hv, hb4⟩; have HZ4 := hidden (HZZ.out.below hb4); have HB4 := hidden (HBB.out.trans (hb4.mono (Nat.le_of_lt HZZ.out.lt))); have HL := hidden hl; have HV := Is.mk hv; have HIR := hidden (infoL R hl.len); have HZL : Hid ((ints .u64 (List.replicate 5 (0 : Int))).size = (ints .u64 R).size) := (show _ = _ by rw [ints_size, ints_size, hl.len]; rfl); clear hb4 hl hv)
            | (refine wpList_store_row rfl 44 _ _ rfl g (ints .u64 R) rfl rfl 44 _ HZ4.out.heap HIR.out HZL.out (onek .u64 R) ?_)
            | fail)
          refine bodyPost_ret (results_cell_row rfl _ _ g 44 _ _ _ rfl (HZ4.out.row R).heap Try.underlying44 rfl HIR.out) rfl ?_
          exact ⟨R, rfl, HL.out, HV.eq, by rw [HG.out]; exact below_setRow HB4.out (Nat.le_refl _) _⟩
end Go.Proofs.Ytnbpangegegccaa
