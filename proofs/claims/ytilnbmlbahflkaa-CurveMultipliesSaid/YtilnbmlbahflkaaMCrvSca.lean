/-
  curve.numberOf and curve.isZero.
-/
import Derived.Test.YtilnbmlbahflkaaMCrvSpec
import Derived.Test.YtilnbmlbahflkaaMPrfWb
import Derived.Test.YtilnbmlbahflkaaMIs
namespace Go.Proofs.Ytilnbmlbahflkaa
open Go.RowKit
set_option linter.unusedVariables false

theorem clear7 (x : Int) (h0 : 0 ≤ x) (h1 : x ≤ 255) : bits .andNot .u8 x 7 = x - x % 8 := by
  have key : ∀ x < 256, bits .andNot .u8 ((x : Nat) : Int) 7 = ((x : Nat) : Int) - ((x : Nat) : Int) % 8 := by decide +kernel
  obtain ⟨x, rfl⟩ := Int.eq_ofNat_of_zero_le h0
  exact key x (by omega)
theorem clear128 (x : Int) (h0 : 0 ≤ x) (h1 : x ≤ 255) : bits .or .u8 (bits .andNot .u8 x 128) 64 = x % 64 + 64 ∧ bits .andNot .u8 x 128 = x % 128 := by
  have key : ∀ x < 256, bits .or .u8 (bits .andNot .u8 ((x : Nat) : Int) 128) 64 = ((x : Nat) : Int) % 64 + 64 ∧ bits .andNot .u8 ((x : Nat) : Int) 128 = ((x : Nat) : Int) % 128 := by decide +kernel
  obtain ⟨x, rfl⟩ := Int.eq_ofNat_of_zero_le h0
  exact key x (by omega)
theorem info32 : (Try.prog.info? 38).map (·.size) = some 32 := by kernel_rfl
theorem Wb.set {w : World} {g : Nat} {t : TypeId} {l : List Int} (h : Wb w g t l) (j : Nat) (v : Int) : Wb (w.setCell ⟨g, j, none⟩ (.int .u8 v)) g t (l.set j v) :=
  ⟨by rw [heap_setCell_same w g j _ _ _ h.heap]; simp [List.map_set]⟩
theorem Wb.other {w : World} {g : Nat} {t : TypeId} {l : List Int} (h : Wb w g t l) (a : Addr) (v : Value) (hn : g ≠ a.block) : Wb (w.setCell a v) g t l := ⟨by rw [Below.heap_setCell w a v g hn]; exact h.heap⟩
theorem Wb.rowOther {w : World} {g : Nat} {t : TypeId} {l : List Int} (h : Wb w g t l) (j : Nat) (cs : Array Value) (hn : g ≠ j) : Wb (w.setRow j cs) g t l := ⟨by rw [setRow_other w j g cs hn]; exact h.heap⟩

set_option maxHeartbeats 800000 in
set_option maxRecDepth 100000 in
theorem numberOf_any (p : Option Addr) (c : Nat) (xs : List Int) (w : World) (h : Byt w p 32 c xs) :
    Calls Try.prog 14 #[.slice p 32 c] w fun e w' => e = .returned (.agg ((clampK xs).map (Value.int .u8)).toArray) ∧ Below w.heap.size w w' := by
  obtain ⟨i0, hi0, hz0, hz1, hz2⟩ := info_parts Try.infoByte
  have HI8 := hidden (by rw [hi0]; simp [hz1] : (Try.prog.info? 5).map (·.size) = some 1)
  have hlen := h.len
  have hr0 := h.rng (xs.getD 0 0) (by rw [List.getD_eq_getElem?_getD]; simp [show 0 < xs.length by omega])
  have hr31 := h.rng (xs.getD 31 0) (by rw [List.getD_eq_getElem?_getD]; simp [show 31 < xs.length by omega])
  have hb0 := clear7 _ hr0.1 hr0.2
  obtain ⟨hb32, hb31⟩ := clear128 _ hr31.1 hr31.2
  have hR : Is (((xs.set 0 (xs.getD 0 0 - xs.getD 0 0 % 8)).set 31 (xs.getD 31 0 % 128)).set 31 (xs.getD 31 0 % 64 + 64)) (clampK xs) := ⟨by unfold clampK; rw [List.set_set]⟩
  have hg31 : Is ((xs.set 0 (xs.getD 0 0 - xs.getD 0 0 % 8)).getD 31 0) (xs.getD 31 0) := ⟨by simp [List.getD_eq_getElem?_getD]⟩
  have hg32 : Is (((xs.set 0 (xs.getD 0 0 - xs.getD 0 0 % 8)).set 31 (xs.getD 31 0 % 128)).getD 31 0) (xs.getD 31 0 % 128) := ⟨by simp [List.getD_eq_getElem?_getD, show 31 < xs.length by omega]⟩
  have HCL := Is.mk (clampK_len xs)
  obtain ⟨x0, hx0⟩ : ∃ x, xs.getD 0 0 = x := ⟨_, rfl⟩
  obtain ⟨x31, hx31⟩ : ∃ x, xs.getD 31 0 = x := ⟨_, rfl⟩
  rw [hx0] at hr0 hb0 hR hg31 hg32
  rw [hx31] at hr31 hb31 hb32 hR hg31 hg32
  have HX0 := Is.mk hx0
  have HLEN := Is.mk hlen
  obtain ⟨n, hn⟩ : ∃ n, w.heap.size = n := ⟨_, rfl⟩
  have HN := Is.mk hn
  have HY := hidden (fun W (hW : Below n w W) => h.below (by rw [hn]; exact hW))
  clear h hn hi0 hz0 hz1 hz2 hlen hx0 hx31
  go_enter Try.func14, Try.ntmps14
  go_upto_region 2 with fail
  generalize hw1 : World.alloc _ (.cells _ 38) = w1
  rw [HN.eq]
  have hZ : Wb w1 n 38 (List.replicate 32 0) := by
    rw [← hw1, ← HN.eq]
    exact (Wb.new w 38 (List.replicate 32 0) _ rfl).alloc _
  have hK : Wb w1 (n + 1) 38 (List.replicate 32 0) := by
    have := Wb.new (w.alloc (.cells ((List.replicate 32 (0 : Int)).map (Value.int .u8)).toArray 38)) 38 (List.replicate 32 0) _ rfl
    rw [World.size_alloc, HN.eq] at this
    rw [← hw1]
    exact this
  have hb : Below n w w1 := by
    rw [← hw1, ← HN.eq]
    exact ((Below.refl _ w).alloc (Nat.le_refl _) _).alloc (by simp) _
  clear hw1
  have HZ := hidden hZ
  have HK := hidden hK
  have HB := hidden hb
  have HY1 := hidden (HY.out w1 hb)
  clear hZ hK hb HY
  go_upto_region 3 with (first
    | (refine wpList_copy_row rfl _ _ 22 22 rfl 5 Try.underlying22 HI8.out (n + 1) 32 32 rfl (List.replicate 32 0) 38 HK.out.heap (by simp) p 32 c xs rfl HY1.out (Nat.le_refl _) xs (by simp) ?_; rintro w2 HK2 HG2)
    | fail)
  have HZ2 : Hid (Wb w2 n 38 (List.replicate 32 0)) := ⟨by rw [HG2.out.block n HZ.out.lt (by simp)]; exact HZ.out.heap⟩
  have HB2 := hidden (HB.out.grown HG2.out (by have := HB.out.size; have := HN.eq; omega) (fun k e => by cases e; omega))
  clear HZ HK HB HY1 HG2
  have c0 := HK2.out.cell 0 (by rw [HLEN.eq]; omega)
  rw [HX0.eq] at c0
  have f0 := HK2.out.fr 0
  have HK3 := hidden (HK2.out.set 0 (x0 - x0 % 8))
  have HZ3 : Hid (Wb (w2.setCell ⟨n + 1, 0, none⟩ (.int .u8 (x0 - x0 % 8))) n 38 (List.replicate 32 0)) := HZ2.out.other _ _ (by simp)
  have HB3 := hidden (HB2.out.setCell (p := ⟨n + 1, 0, none⟩) (by simp) (.int .u8 (x0 - x0 % 8)))
  go_upto_region 4 with fail
  clear c0 f0 HK2 HZ2 HB2
  generalize World.setCell w2 _ _ = w3 at *
  have c31 := HK3.out.cell 31 (by rw [List.length_set, HLEN.eq]; omega)
  rw [hg31.eq] at c31
  have f31 := HK3.out.fr 31
  have HK4 := hidden (HK3.out.set 31 (x31 % 128))
  have HZ4 : Hid (Wb (w3.setCell ⟨n + 1, 31, none⟩ (.int .u8 (x31 % 128))) n 38 (List.replicate 32 0)) := HZ3.out.other _ _ (by simp)
  have HB4 := hidden (HB3.out.setCell (p := ⟨n + 1, 31, none⟩) (by simp) (.int .u8 (x31 % 128)))
  go_upto_region 5 with fail
  clear c31 f31 HK3 HZ3 HB3
  generalize World.setCell w3 _ _ = w4 at *
  have c32 := HK4.out.cell 31 (by rw [List.length_set, List.length_set, HLEN.eq]; omega)
  rw [hg32.eq] at c32
  rw [hb31] at hb32
  have f32 := HK4.out.fr 31
  have hK5 := HK4.out.set 31 (x31 % 64 + 64)
  rw [hR.eq] at hK5
  have HK5 := hidden hK5
  have HZ5 : Hid (Wb (w4.setCell ⟨n + 1, 31, none⟩ (.int .u8 (x31 % 64 + 64))) n 38 (List.replicate 32 0)) := HZ4.out.other _ _ (by simp)
  have HB5 := hidden (HB4.out.setCell (p := ⟨n + 1, 31, none⟩) (by simp) (.int .u8 (x31 % 64 + 64)))
  clear hK5
  go_upto_region 6 with fail
  clear c32 f32 HK4 HZ4 HB4
  generalize World.setCell w4 _ _ = w5 at *
  generalize hRR : clampK xs = R at *
  have HIR : Hid ((Try.prog.info? 38).map (·.size) = some ((R.map (Value.int .u8)).toArray).size) := by show _ = _; rw [info32]; simp [HCL.eq, HLEN.eq]
  have HZR : Hid ((((List.replicate 32 (0 : Int)).map (Value.int .u8)).toArray).size = ((R.map (Value.int .u8)).toArray).size) := by show _ = _; simp [HCL.eq, HLEN.eq]
  have HRR := Is.mk hRR
  clear hRR
  go_wp2_with (first
    | (refine wpList_load_row rfl 38 _ rfl (n + 1) rfl 38 _ (0, 0) _ HK5.out.heap Try.underlying38 rfl HIR.out ?_)
    | (refine wpList_store_row rfl 38 _ _ rfl n _ rfl rfl 38 _ HZ5.out.heap HIR.out HZR.out (one8 R) ?_)
    | fail)
  refine bodyPost_ret (results_cell_row rfl _ _ n 38 _ _ _ rfl (HZ5.out.row R).heap Try.underlying38 rfl HIR.out) rfl ?_
  exact ⟨by rw [HRR.eq], by rw [HN.eq]; exact below_setRow HB5.out (Nat.le_refl _) _⟩

/-- The or of bytes. -/
theorem or_zero8 (a b : Int) (ha : 0 ≤ a ∧ a ≤ 255) (hb : 0 ≤ b ∧ b ≤ 255) : (bits .or .u8 a b = 0 ↔ a = 0 ∧ b = 0) ∧ 0 ≤ bits .or .u8 a b ∧ bits .or .u8 a b ≤ 255 := by
  obtain ⟨a, rfl⟩ := Int.eq_ofNat_of_zero_le ha.1
  obtain ⟨b, rfl⟩ := Int.eq_ofNat_of_zero_le hb.1
  rw [u8_or_nat a b (by omega) (by omega)]
  have hlt : a ||| b < 2 ^ 8 := Nat.or_lt_two_pow (by omega) (by omega)
  have h0 := @Nat.or_eq_zero_iff a b
  refine ⟨⟨fun h => ?_, fun h => ?_⟩, by omega, by omega⟩
  · have := h0.1 (by omega)
    omega
  · have := h0.2 ⟨by omega, by omega⟩
    omega
/-- All of the first j bytes are 0. -/
def zeros (xs : List Int) (j : Nat) : Prop := ∀ i, i < j → xs.getD i 0 = 0
theorem zeros_all (xs : List Int) (h : zeros xs xs.length) : xs = List.replicate xs.length 0 := by
  refine List.ext_getElem (by simp) fun i h1 h2 => ?_
  have := h i h1
  rw [List.getD_eq_getElem?_getD, List.getElem?_eq_getElem h1] at this
  simpa using this

set_option maxHeartbeats 800000 in
set_option maxRecDepth 100000 in
theorem isZero_any (p : Option Addr) (n c : Nat) (xs : List Int) (w : World) (h : Byt w p n c xs) (hn : n ≤ 1000) :
    Calls Try.prog 30 #[.slice p n c] w fun e w' => e = .returned (.bool (decide (xs = List.replicate n 0))) ∧ w' = w := by
  have hlen := h.len
  have HX := hidden (fun j (hj : j < n) => h.rng (xs.getD j 0) (by rw [List.getD_eq_getElem?_getD]; simp [show j < xs.length by omega]))
  have HC : Hid (∀ j, j < n → ∃ b o, p = some ⟨b, o, none⟩ ∧ w.cell? ⟨b, o + j, none⟩ = some (.int .u8 (xs.getD j 0))) := fun j hj => by
    obtain ⟨b, o, e, hc⟩ := h.at_ (show 0 < n by omega)
    exact ⟨b, o, e, hc j hj⟩
  have HZ : Hid (zeros xs n ↔ xs = List.replicate n 0) := by
    constructor
    · intro hz; have := zeros_all xs (by rw [hlen]; exact hz); rwa [hlen] at this
    · intro he i hi; rw [he]; simp [List.getD_eq_getElem?_getD, hi]
  clear h hlen
  go_enter Try.func30, Try.ntmps30
  go_wp2
  go_loopw [3, 8] (fun a i wr => ∃ (j : Nat) (s : Int), j ≤ n ∧ i = .int .i64 j ∧ a = .int .u8 s ∧ Hid (0 ≤ s ∧ s ≤ 255) ∧ Hid (s = 0 ↔ zeros xs j) ∧ wr = w) (fun _ i _ => n - (intOf i).toNat)
  case atStart => exact ⟨0, 0, by omega, rfl, rfl, ⟨by decide, by decide⟩, ⟨fun _ i hi => by omega, fun _ => rfl⟩, by trivial⟩
  case round =>
    obtain ⟨j, s, hj, rfl, rfl, HSR, HSZ, rfl⟩ := hrel
    by_cases hlt : j < n
    · obtain ⟨b, o, rfl, hcx⟩ := HC.out j hlt
      have hx := HX.out j hlt
      have hor := or_zero8 s (xs.getD j 0) HSR.out hx
      have HOR : Hid (bits .or .u8 s (xs.getD j 0) = 0 ↔ zeros xs (j + 1)) := by
        constructor
        · intro hz i hi
          obtain ⟨h1, h2⟩ := hor.1.1 hz
          by_cases hij : i = j
          · subst hij; exact h2
          · exact HSZ.out.1 h1 i (by omega)
        · intro hz
          exact hor.1.2 ⟨HSZ.out.2 (fun i hi => hz i (by omega)), hz j (by omega)⟩
      have HRR := hidden hor.2
      generalize xs.getD j 0 = x at *
      clear hor hx
      have b0 : (j : Int) < (n : Int) := by omega
      have b1 : (0 : Int) ≤ (j : Int) := by omega
      go_wp2
      go_roundw
      case rel => exact ⟨j + 1, _, by omega, by go_num, rfl, HRR, HOR, by trivial⟩
      case measure => simp [intOf]; omega
    · have hje : j = n := by omega
      have hge : ¬ (j : Int) < (n : Int) := by omega
      have hs := HSZ.out
      rw [hje] at hs
      have HD : Hid (decide (s = 0) = decide (xs = List.replicate n 0)) := by
        show _ = _
        rw [decide_eq_decide, hs]
        exact HZ.out
      clear hje hs HSZ
      go_wp2
      go_ret
      exact ⟨by rw [← HD.out]; rfl, rfl⟩
end Go.Proofs.Ytilnbmlbahflkaa
