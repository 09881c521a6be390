/-
  The sealing of the document, as functions on lists of numbers.
  The small functions of package aead: what fills a piece, a length in eight bytes, and the comparison of tags.
-/
import Derived.Test.YtpocehpejbnemaaDoorQChaMath
import Derived.Test.YtpocehpejbnemaaDoorQZ1
import Derived.Test.YtpocehpejbnemaaDoorQZ4
import Derived.Test.YtpocehpejbnemaaDoorQIs
import Derived.Test.YtpocehpejbnemaaDoorQZ3
import Derived.Test.YtpocehpejbnemaaDoorQZ0
import Derived.Deep.RegionHeld3
import Derived.Deep.Cut
import Derived.Deep.CutRange
namespace Go.Proofs.YtpocehpejbnemaaDoor
open Go.RowKit
set_option linter.unusedVariables false

/-- How many bytes 0 fill the last piece of n bytes. -/
def fillA (n : Nat) : Nat := (16 - n % 16) % 16
/-- A number in eight bytes, the lowest one first. -/
def le8 (n : Nat) : List Int := dig 256 8 (n : Int)
theorem le8_len (n : Nat) : (le8 n).length = 8 := dig_len _ _ _
theorem le8_rng (n : Nat) : ∀ x ∈ le8 n, 0 ≤ x ∧ x ≤ 255 := fun x hx => by
  have := dig_rng 256 (by omega) 8 (n : Int) x hx
  omega
/-- What is authenticated. -/
def textA (data cipher : List Int) : List Int :=
  data ++ (List.replicate (fillA data.length) 0 ++ (cipher ++ (List.replicate (fillA cipher.length) 0 ++ (le8 data.length ++ le8 cipher.length))))
/-- The tag of data in clear and of encrypted bytes. -/
def tagA (key nonce data cipher : List Int) : List Int := tagS ((blockC key 0 nonce).take 32) (textA data cipher)
theorem tagA_len (key nonce data cipher : List Int) : (tagA key nonce data cipher).length = 16 := tagS_len _ _
theorem tagA_rng (key nonce data cipher : List Int) : ∀ x ∈ tagA key nonce data cipher, 0 ≤ x ∧ x ≤ 255 := tagS_rng _ _
/-- The sealed bytes. -/
def sealA (key nonce data plain : List Int) : List Int := xorC key 1 nonce plain ++ tagA key nonce data (xorC key 1 nonce plain)
theorem textA_len (d c : List Int) : (textA d c).length = d.length + fillA d.length + c.length + fillA c.length + 16 := by
  simp only [textA, List.length_append, List.length_replicate, le8_len]
  omega
theorem textA_rng (d c : List Int) (hd : ∀ x ∈ d, 0 ≤ x ∧ x ≤ 255) (hc : ∀ x ∈ c, 0 ≤ x ∧ x ≤ 255) : ∀ x ∈ textA d c, 0 ≤ x ∧ x ≤ 255 := by
  have hz : ∀ k, ∀ x ∈ List.replicate k (0 : Int), 0 ≤ x ∧ x ≤ 255 := fun k x hx => by rw [List.eq_of_mem_replicate hx]; omega
  intro x hx
  unfold textA at hx
  rcases List.mem_append.1 hx with hx | hx
  · exact hd x hx
  rcases List.mem_append.1 hx with hx | hx
  · exact hz _ x hx
  rcases List.mem_append.1 hx with hx | hx
  · exact hc x hx
  rcases List.mem_append.1 hx with hx | hx
  · exact hz _ x hx
  rcases List.mem_append.1 hx with hx | hx
  · exact le8_rng _ x hx
  · exact le8_rng _ x hx
theorem fillA_lt (n : Nat) : fillA n ≤ 15 := by unfold fillA; omega
theorem fillA_mod (n : Nat) : (n + fillA n) % 16 = 0 := by unfold fillA; omega

theorem orb_rng (a b : Int) : 0 ≤ bits .or .u8 a b ∧ bits .or .u8 a b ≤ 255 := by
  show 0 ≤ IntKind.u8.wrap _ ∧ IntKind.u8.wrap _ ≤ _
  rw [IntKind.wrap_u8]; omega
theorem ofInt8_zero (a : Int) (h : 0 ≤ a ∧ a ≤ 255) : BitVec.ofInt 8 a = 0#8 ↔ a = 0 := by
  constructor
  · intro e
    have e2 := congrArg BitVec.toNat e
    rw [BitVec.toNat_ofInt] at e2
    simp at e2
    omega
  · rintro rfl; rfl
theorem orb_zero (a b : Int) (ha : 0 ≤ a ∧ a ≤ 255) (hb : 0 ≤ b ∧ b ≤ 255) : bits .or .u8 a b = 0 ↔ a = 0 ∧ b = 0 := by
  show IntKind.u8.wrap ((BitVec.ofInt 8 a ||| BitVec.ofInt 8 b).toNat : Int) = 0 ↔ _
  rw [IntKind.wrap_u8, ← ofInt8_zero a ha, ← ofInt8_zero b hb, ← BitVec.or_eq_zero_iff]
  have hl : (BitVec.ofInt 8 a ||| BitVec.ofInt 8 b).toNat < 256 := (BitVec.ofInt 8 a ||| BitVec.ofInt 8 b).isLt
  constructor
  · intro h
    apply BitVec.eq_of_toNat_eq
    simp only [BitVec.toNat_ofNat]
    omega
  · intro h
    rw [h]
    rfl
theorem xorb_self0 (x : Int) : bits .xor .u8 x x = 0 := by
  show IntKind.u8.wrap ((BitVec.ofInt 8 x ^^^ BitVec.ofInt 8 x).toNat : Int) = 0
  rw [BitVec.xor_self, IntKind.wrap_u8]
  rfl
theorem xorb_eq (x y : Int) (hx : 0 ≤ x ∧ x ≤ 255) (hy : 0 ≤ y ∧ y ≤ 255) : bits .xor .u8 x y = 0 ↔ x = y := by
  constructor
  · intro h
    have h2 := xorb_back x y hx
    rw [h, xorb_zero y hy] at h2
    exact h2.symm
  · rintro rfl; exact xorb_self0 x
/-- One byte more of two lists that are compared. -/
theorem diff_next (a b : List Int) (j : Nat) (d : Int) (ha : j < a.length) (hb : j < b.length) (hra : ∀ x ∈ a, 0 ≤ x ∧ x ≤ 255) (hrb : ∀ x ∈ b, 0 ≤ x ∧ x ≤ 255) (hd : 0 ≤ d ∧ d ≤ 255)
    (h : d = 0 ↔ a.take j = b.take j) : bits .or .u8 d (bits .xor .u8 (a.getD j 0) (b.getD j 0)) = 0 ↔ a.take (j + 1) = b.take (j + 1) := by
  have e1 : a.getD j 0 = a[j] := by rw [List.getD_eq_getElem?_getD, List.getElem?_eq_getElem ha, Option.getD_some]
  have e2 : b.getD j 0 = b[j] := by rw [List.getD_eq_getElem?_getD, List.getElem?_eq_getElem hb, Option.getD_some]
  have r1 := hra _ (List.getElem_mem ha)
  have r2 := hrb _ (List.getElem_mem hb)
  rw [orb_zero _ _ hd (xorb_rng _ _), e1, e2, xorb_eq _ _ r1 r2, h, List.take_succ_eq_append_getElem ha, List.take_succ_eq_append_getElem hb]
  constructor
  · rintro ⟨h1, h2⟩
    rw [h1, h2]
  · intro h
    have := List.append_inj h (by simp; omega)
    exact ⟨this.1, by simpa using this.2⟩
/-- A byte that is changed is another one. -/
theorem xorb_ne (x m : Int) (hx : 0 ≤ x ∧ x ≤ 255) (hm : 0 ≤ m ∧ m ≤ 255) (h : m ≠ 0) : bits .xor .u8 x m ≠ x := by
  intro e
  have h2 := xorb_back x m hx
  rw [e] at h2
  have h3 := xorb_back x x hx
  rw [xorb_self0] at h3
  have h4 : bits .xor .u8 m x = 0 := by
    have : bits .xor .u8 (bits .xor .u8 m x) x = m := xorb_back m x hm
    have e2 : bits .xor .u8 m x = bits .xor .u8 x m := by
      show IntKind.u8.wrap ((BitVec.ofInt 8 m ^^^ BitVec.ofInt 8 x).toNat : Int) = IntKind.u8.wrap ((BitVec.ofInt 8 x ^^^ BitVec.ofInt 8 m).toNat : Int)
      rw [BitVec.xor_comm]
    rw [e2, e, xorb_self0] at this
    exact absurd this.symm h
  have := (xorb_eq m x hm hx).1 h4
  rw [this] at h2
  rw [xorb_self0] at h2
  exact h (by omega)
end Go.Proofs.YtpocehpejbnemaaDoor

namespace Go.Proofs.YtpocehpejbnemaaDoor
open Go.RowKit
set_option linter.unusedVariables false

set_option maxHeartbeats 800000 in
theorem filling_any (p : Option Addr) (n c : Nat) (w : World) (hn : n ≤ maxLen) :
    Calls Tryd.prog 35 #[.slice p n c] w fun e w' => ∃ v, e = .returned v ∧ Own w' w.heap.size 5 v (List.replicate (fillA n) 0) ∧ Below w.heap.size w w' := by
  obtain ⟨i0, hi, hz0, hz1, hz2⟩ := info_parts Tryd.infoByte
  have hF := fillA_lt n
  have e1 : (16 - (n : Int) % 16) % 16 = ((fillA n : Nat) : Int) := by unfold fillA; omega
  generalize fillA n = F at *
  unfold maxLen at hn
  go_enter Tryd.func35, Tryd.ntmps35
  go_wp2_with (first
    | (at_make; refine wpList_make_byt _ rfl _ _ 22 rfl w.heap.size 5 i0 Tryd.underlying22 hi hz0 hz1 hz2 _ _ _ _ F F rfl rfl ?m1 ?m2 ?m3 ?m4 (Nat.le_refl _) ?_)
    | fail)
  case m1 => exact e1
  case m2 => exact e1
  case m3 => omega
  case m4 => omega
  intro w1 hown hg
  have HB := hidden ((Below.refl w.heap.size w).grown hg (Nat.le_refl _) (by intro k hk; simp at hk))
  have HO := hidden hown
  clear hown hg
  go_wp2
  go_ret
  exact ⟨_, rfl, HO.out, HB.out⟩

/-- Two places of a list exchanged, from the ends inward. -/
def swapN (n : Nat) (L : List Int) : Nat → List Int
  | 0 => L
  | k + 1 => ((swapN n L k).set k ((swapN n L k).getD (n - 1 - k) 0)).set (n - 1 - k) ((swapN n L k).getD k 0)
theorem swapN_len (n : Nat) (L : List Int) (k : Nat) : (swapN n L k).length = L.length := by
  induction k with
  | zero => rfl
  | succ k ih => simp [swapN, ih]
theorem swap8 (L : List Int) (h : L.length = 8) : swapN 8 L 4 = L.reverse := by
  match L, h with
  | [a, b, c, d, e, f, g, h], _ => rfl
theorem be8_rev (v : Int) (hv : 0 ≤ v) : (be 8 v).reverse = dig 256 8 v := by
  simp only [be, dig, List.reverse_cons, List.reverse_nil, List.nil_append, List.cons_append]
  simp only [List.cons.injEq, and_true]
  refine ⟨?_, ?_, ?_, ?_, ?_, ?_, ?_, ?_⟩ <;> omega

set_option maxHeartbeats 1600000 in
set_option maxRecDepth 100000 in
theorem reverse_any (g c base : Nat) (xs : List Int) (w : World) (h : Own w base 5 (.slice (some ⟨g, 0, none⟩) 8 c) xs) (hl : xs.length = 8) :
    Calls Tryd.prog 78 #[.slice (some ⟨g, 0, none⟩) 8 c] w fun e w' => e = .returned (.tuple #[]) ∧ Own w' base 5 (.slice (some ⟨g, 0, none⟩) 8 c) xs.reverse ∧ w.grownBy w' (some g) := by
  obtain ⟨SW, hSW⟩ : ∃ SW : Nat → List Int, swapN 8 xs = SW := ⟨_, rfl⟩
  have HS : Hid (∀ k, SW (k + 1) = ((SW k).set k ((SW k).getD (7 - k) 0)).set (7 - k) ((SW k).getD k 0)) := fun k => by rw [← hSW]; rfl
  have HL : Hid (∀ k, (SW k).length = 8) := fun k => by rw [← hSW, swapN_len, hl]
  have HE : Is (SW 4) xs.reverse := ⟨by rw [← hSW]; exact swap8 xs hl⟩
  have H0 : Own w base 5 (.slice (some ⟨g, 0, none⟩) 8 c) (SW 0) := by rw [← hSW]; exact h
  have HH := hidden H0
  clear h H0 hSW
  generalize xs.reverse = R at *
  go_enter Tryd.func78, Tryd.ntmps78
  go_wp2_with fail
  go_loopw [2, 3] (fun i j wr => ∃ k : Nat, k ≤ 4 ∧ i = .int .i64 k ∧ j = .int .i64 (7 - (k : Int)) ∧ Own wr base 5 (.slice (some ⟨g, 0, none⟩) 8 c) (SW k) ∧ w.grownBy wr (some g)) (fun i _ _ => 4 - (intOf i).toNat)
  case atStart => exact ⟨0, by omega, rfl, rfl, HH.out, World.grownBy.refl _ _⟩
  case round =>
    obtain ⟨k, hk, rfl, rfl, ho, hg⟩ := hrel
    have HO := hidden ho
    have HG := hidden hg
    clear hg HH
    by_cases hlt : k < 4
    · have hlt' : (k : Int) < 7 - (k : Int) := by omega
      obtain ⟨g', c', e', hg0, hg1, hgc, hgf⟩ := ho.at_ (n := 8) (HL.out k) (by omega)
      cases e'
      have c0 := hgc k (by omega)
      have c1 := hgc (7 - k) (by omega)
      have f0 := hgf k
      have f1 := hgf (7 - k)
      have hst := HS.out k
      generalize (SW k).getD k 0 = x at *
      generalize (SW k).getD (7 - k) 0 = y at *
      have HOS := hidden ((HO.out.set (HL.out k) k y).set (by rw [List.length_set]; exact HL.out k) (7 - k) x)
      rw [← hst] at HOS
      have b0 : (0 : Int) ≤ (k : Int) := by omega
      have b1 : (k : Int) < 8 := by omega
      have b2 : (0 : Int) ≤ 7 - (k : Int) := by omega
      have b3 : 7 - (k : Int) < 8 := by omega
      have b4 : (7 - (k : Int)).toNat = 7 - k := by omega
      have b5 : ¬ k = 7 - k := by omega
      have b6 : ¬ 7 - k = k := by omega
      clear hst ho hgc hgf
      go_upto_region 3 with fail
      go_region
      have HGS := hidden (grown_trans HG.out (grown_trans (grown_set wr g k (.int .u8 y)) (grown_set _ g (7 - k) (.int .u8 x))))
      clear HG HO
      have HOD := hidden (HOS.out.drew)
      have HGD := hidden (show w.grownBy (((wr.setCell ⟨g, k, none⟩ (.int .u8 y)).setCell ⟨g, 7 - k, none⟩ (.int .u8 x)).drew) (some g) from ⟨HGS.out.os, HGS.out.tape, HGS.out.output, HGS.out.size, HGS.out.block⟩)
      generalize World.drew _ = w9 at *
      have e7 : 7 - (k : Int) - 1 = 7 - ((k + 1 : Nat) : Int) := by omega
      go_wp2
      go_roundw
      case rel => exact ⟨k + 1, by omega, by go_num, by go_num, HOD.out, HGD.out⟩
      case measure => simp [intOf]; omega
    · have hge : ¬ (k : Int) < 7 - (k : Int) := by omega
      have hk4 : k = 4 := by omega
      rw [hk4, HE.eq] at HO
      clear ho
      go_wp2
      refine bodyPost_end (results_none rfl _ _ _) rfl ?_
      exact ⟨rfl, HO.out, HG.out⟩

set_option maxHeartbeats 800000 in
theorem count_any (p : Option Addr) (n c : Nat) (w : World) (hn : n ≤ maxLen) :
    Calls Tryd.prog 36 #[.slice p n c] w fun e w' => ∃ v, e = .returned v ∧ Own w' w.heap.size 5 v (le8 n) ∧ Below w.heap.size w w' := by
  unfold maxLen at hn
  have hw : IntKind.u64.wrap (n : Int) = (n : Int) := by rw [IntKind.wrap_u64]; omega
  have HP := hidden (put_any none 0 0 [] w (Byt.nil _ _ _ (by decide)) (by omega) (n : Int) (by omega) 8)
  have hpe : putR [] (n : Int) 8 = be 8 (n : Int) := by unfold putR; rw [if_pos (by omega)]; rfl
  rw [hpe] at HP
  obtain ⟨L, hL⟩ : ∃ L, be 8 (n : Int) = L := ⟨_, rfl⟩
  have hl : L.length = 8 := by rw [← hL, be_len]
  have HR : Is L.reverse (le8 n) := ⟨by rw [← hL, be8_rev _ (by omega)]; rfl⟩
  rw [hL] at HP
  clear hL hpe
  generalize le8 n = R at *
  go_enter Tryd.func36, Tryd.ntmps36
  go_wp2_with (first
    | (go_at_call 77; (with_reducible refine (HP.out).mono ?_); rintro e w1 ⟨v, rfl, ho, hb⟩; obtain ⟨g, d, rfl, hg0, hg1, -, -⟩ := ho.at_ (n := 8) hl (by omega); have HV := hidden (reverse_any g d _ L w1 ho hl); have HB := hidden hb; clear ho hb)
    | (go_at_call 78; (with_reducible refine (HV.out).mono ?_); rintro e w2 ⟨rfl, ho2, hg2⟩; have HO2 := hidden ho2; have HB2 := hidden (HB.out.grown hg2 HB.out.size (fun k e => by cases e; exact hg0)); clear ho2 hg2)
    | fail)
  rw [HR.eq] at HO2
  go_ret
  exact ⟨_, rfl, HO2.out, HB2.out⟩

set_option maxHeartbeats 800000 in
theorem same_any (p q : Option Addr) (n c d : Nat) (xs ys : List Int) (w : World) (h : Byt w p n c xs) (k : Byt w q n d ys) :
    Calls Tryd.prog 42 #[.slice p n c, .slice q n d] w fun e w' => e = .returned (.bool (decide (xs = ys))) ∧ w = w' := by
  have hl := h.len
  have hl2 := k.len
  have hcap := h.le
  have H := hidden h
  have K := hidden k
  have HD := hidden (fun j x (hj : j < n) => diff_next xs ys j x (by omega) (by omega) h.rng k.rng)
  have HT : Hid (xs.take n = xs ∧ ys.take n = ys) := ⟨List.take_of_length_le (by omega), List.take_of_length_le (by omega)⟩
  clear h k hl hl2
  go_enter Tryd.func42, Tryd.ntmps42
  go_wp2_with fail
  go_loopw [5, 10] (fun x i wr => ∃ (j : Nat) (z : Int), j ≤ n ∧ i = .int .i64 j ∧ x = .int .u8 z ∧ 0 ≤ z ∧ z ≤ 255 ∧ Hid (z = 0 ↔ xs.take j = ys.take j) ∧ w = wr) (fun _ i _ => n - (intOf i).toNat)
  case atStart => exact ⟨0, 0, by omega, rfl, rfl, by omega, by omega, hidden (by simp), rfl⟩
  case round =>
    obtain ⟨j, z, hj, rfl, rfl, hz0, hz1, hz, rfl⟩ := hrel
    by_cases hlt : j < n
    · have hlt' : (j : Int) < n := by omega
      have hnx := HD.out j z hlt ⟨hz0, hz1⟩ hz.out
      obtain ⟨b1, o1, rfl, hc1⟩ := H.out.at_ (by omega)
      obtain ⟨b2, o2, rfl, hc2⟩ := K.out.at_ (by omega)
      have c1 := hc1 j hlt
      have c2 := hc2 j hlt
      have r1 := rng_getD H.out.rng j
      have r2 := rng_getD K.out.rng j
      generalize xs.getD j 0 = x at *
      generalize ys.getD j 0 = y at *
      have hr := orb_rng z (bits .xor .u8 x y)
      have HNX := hidden hnx
      clear hc1 hc2 hnx
      go_wp2
      go_roundw
      case rel => exact ⟨j + 1, _, by omega, by go_num, rfl, hr.1, hr.2, HNX, trivial⟩
      case measure => simp [intOf]; omega
    · obtain rfl : j = n := by omega
      have hge : ¬ (j : Int) < j := by omega
      have hd : (z == 0) = decide (xs = ys) := by
        have := hz.out
        rw [HT.out.1, HT.out.2] at this
        rw [Bool.eq_iff_iff, beq_iff_eq, decide_eq_true_eq]
        exact this
      have HE := hidden hd
      clear hd hz
      go_wp2
      rw [HE.out]
      go_ret
      exact ⟨rfl, rfl⟩
end Go.Proofs.YtpocehpejbnemaaDoor
