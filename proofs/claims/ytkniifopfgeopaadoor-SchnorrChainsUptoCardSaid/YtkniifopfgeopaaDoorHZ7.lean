/-
  Layer 15's sanity check.
  Certificates, as values, and the names and bodies of those that are valid.
-/
import Derived.Test.YtkniifopfgeopaaDoorHSchVer
import Derived.Test.YtkniifopfgeopaaDoorHZ8
import Derived.OwnWalk
import Derived.Lib.SlBytesConst
import Derived.Lib.ConvBytes
import Derived.Lib.AppendStr
namespace Go.Proofs.YtkniifopfgeopaaDoor
open Go.RowKit
set_option linter.unusedVariables false

theorem sigL_len (x : Nat) (h : gsec x = true) (m : List Int) : (sigL x m).length = 16 := by unfold sigL; rw [if_pos h, List.length_append, gbytes_len, gbytes_len]
theorem pubE_5 : pubE 5 = 0 := by unfold pubE; rw [if_pos (by decide)]
theorem pubE_0 : pubE 0 = 13 := by unfold pubE; rw [if_neg (by decide)]
set_option maxHeartbeats 800000 in
theorem chain_nil (y : Int) (w : World) : Calls Tryd.prog 11 #[.slice none 0 0, .int .u64 y, .int .i64 0] w fun e w' => e = .returned (.tuple #[.string ⟨#[]⟩, .int .u64 0, .int .i64 8]) ∧ w = w' := by
  go_enter Tryd.func11, Tryd.ntmps11
  go_wp2
  go_ret3
  exact ⟨rfl, rfl⟩

theorem const_bytS (w : World) (l : List Int) (n : Nat) (hn : l.length = n) (hb : n ≤ maxLen) (hr : ∀ x ∈ l, 0 ≤ x ∧ x ≤ 255) (T : TypeId) (fz : Nat × Nat) : Byt (w.alloc (.cells (l.map (Value.int .u8)).toArray T fz)) (some ⟨w.heap.size, 0, none⟩) n n l :=
  ⟨hn, Nat.le_refl _, hb, hr, fun _ => ⟨w.heap.size, 0, rfl, fun j hj => by
    rw [cell_of_row _ w.heap.size _ _ _ _ (heap_alloc_new w _), Nat.zero_add]
    simp [List.getD_eq_getElem?_getD, hj]⟩⟩
set_option maxHeartbeats 1600000 in
set_option maxRecDepth 100000 in
theorem awake15_any (w : World) (hK : KAt w) : Calls Tryd.prog 4 #[] w fun e w' => e = .returned (.bool true) ∧ Below w.heap.size w w' := by
  have HK := hidden (fun W (hW : Below w.heap.size w W) => hK.below hW hK.lt)
  have HS5 := hidden (fun (p : Option Addr) W (h : Byt W p 1 1 [109]) (hb : Below w.heap.size w W) => signS_any 5 (by decide) p 1 1 [109] W h (by omega) (HK.out W hb))
  have HS0 := hidden (fun W (hb : Below w.heap.size w W) => signS_any 0 (by decide) none 0 0 [] W (Byt.nil _ _ _ (Nat.zero_le _)) (by omega) (HK.out W hb))
  have HP5 := hidden (fun W => rpub_any 5 (by decide) W)
  have hpl := pubV_lt 5
  have hgp := gp_big
  have HV := hidden (fun (p q : Option Addr) (k d : Nat) W (h : Byt W p 1 1 [109]) (hs : Byt W q k d (sigL 5 [109])) (hb : Below w.heap.size w W) => verS_any (pubV 5) (by omega) p 1 1 [109] q k d (sigL 5 [109]) W h (by omega) hs (HK.out W hb))
  rw [ver_sign 5 (by decide) (by decide) [109]] at HV
  rw [pubE_5, show ((5 : Nat) : Int) = 5 from rfl] at HS5 HP5
  rw [pubE_0, show ((0 : Nat) : Int) = 0 from rfl] at HS0
  have hB := hidden (Below.refl w.heap.size w)
  generalize sigL 5 [109] = S at *
  generalize sigL 0 [] = S0 at *
  generalize ((pubV 5 : Nat) : Int) = y at *
  have kc := fun (w : World) (n c : Nat) => Lib.run_convert_bytes_const (P := Tryd.prog) w 22 5 #[.int .u8 109] n c Tryd.underlying22 Tryd.underlying5
  clear hK hpl hgp
  go_enter Tryd.func4, Tryd.ntmps4
  have HM1 : Hid (Byt (w.alloc (.cells #[.int .u8 109] 5 (1, 2))) (some ⟨w.heap.size, 0, none⟩) 1 1 [109]) := hidden (const_bytS w [109] 1 rfl (by decide) (by decide) 5 (1, 2))
  have HB1 := hidden (hB.out.alloc (Nat.le_refl _) (.cells #[.int .u8 109] 5 (1, 2)))
  have HX1 := hidden (HS5.out _ _ HM1.out HB1.out)
  go_upto_region 4 with (first
    | (go_at_call 25; (with_reducible refine (HX1.out).mono ?_); rintro e w2 ⟨p2, N2, c2, rfl, hy2, hb2⟩; have HY2 := hidden (fun W (hW : Below w2.heap.size w2 W) => hy2.below hW); have HB2 := hidden (HB1.out.trans (hb2.mono HB1.out.size)); clear hy2 hb2 HX1)
    | (go_at_call 7; (with_reducible refine (HP5.out _).mono ?_); rintro e w3 ⟨rfl, hb⟩; have HC3 := hidden hb; have HB3 := hidden (HB2.out.trans (hb.mono HB2.out.size)); have HX3 := hidden (HS0.out w3 HB3.out); clear hb)
    | (go_at_call 25; (with_reducible refine (HX3.out).mono ?_); rintro e w4 ⟨p4, N4, c4, rfl, hy4, hb4⟩; have HC4 := hidden (HC3.out.trans (hb4.mono HC3.out.size)); have HB4 := hidden (HB3.out.trans (hb4.mono HB3.out.size)); clear hy4 hb4)
    | fail)
  go_upto_region 5 with (first
    | (go_at_call 11; (with_reducible refine (chain_nil y _).mono ?_); rintro e w5 ⟨rfl, rfl⟩)
    | fail)
  have HM5 : Hid (Byt (w4.alloc (.cells #[.int .u8 109] 5 (1, 2))) (some ⟨w4.heap.size, 0, none⟩) 1 1 [109]) := hidden (const_bytS w4 [109] 1 rfl (by decide) (by decide) 5 (1, 2))
  have HB5 := hidden (HB4.out.alloc HB4.out.size (.cells #[.int .u8 109] 5 (1, 2)))
  have HX5 := hidden (HV.out _ p2 N2 c2 _ HM5.out (HY2.out _ (HC4.out.alloc HC4.out.size (.cells #[.int .u8 109] 5 (1, 2)))) HB5.out)
  go_wp2_with (first
    | (go_at_call 26; (with_reducible refine (HX5.out).mono ?_); rintro e w6 ⟨rfl, hb⟩; have HB6 := hidden (HB5.out.trans (hb.mono HB5.out.size)); clear hb)
    | fail)
  go_ret
  exact ⟨rfl, HB6.out⟩
end Go.Proofs.YtkniifopfgeopaaDoor

namespace Go.Proofs.YtkniifopfgeopaaDoor
open Go.RowKit
set_option linter.unusedVariables false

/-- A certificate: its name, key, times, authority, and its signature's slice and bytes. -/
structure Ct where
  s : ByteArray
  k : Nat
  f : Int
  t : Int
  a : Bool
  p : Option Addr
  n : Nat
  c : Nat
  g : List Int
def Ct.cs (x : Ct) : List Value := [.string x.s, .int .u64 (x.k : Int), .int .i64 x.f, .int .i64 x.t, .bool x.a, .slice x.p x.n x.c]
def Ct.v (x : Ct) : Value := .agg #[.string x.s, .int .u64 (x.k : Int), .int .i64 x.f, .int .i64 x.t, .bool x.a, .slice x.p x.n x.c]
def KCt : KindR Ct where
  e := 37
  k := 6
  cs := Ct.cs
  len _ := rfl
  one x u hu := by
    simp [Ct.cs] at hu
    rcases hu with rfl | rfl | rfl | rfl | rfl | rfl <;> rfl
  pos := by decide
/-- The name can be a name. -/
structure NameOk (s : ByteArray) : Prop where
  pos : 1 ≤ s.size
  le : s.size ≤ 16
  rng : ∀ x ∈ letters s, 33 ≤ x ∧ x ≤ 126
/-- What is signed can be written. -/
structure CtOk (x : Ct) : Prop where
  nm : NameOk x.s
  kl : x.k < 18446744073709551616
  ke : gel x.k = true
  f0 : 0 ≤ x.f
  ft : x.f ≤ x.t
  t1 : x.t ≤ 2147483647
def bdL (x : Ct) : List Int := (((([(x.s.size : Int)] ++ letters x.s) ++ gbytes x.k) ++ be 4 x.f) ++ be 4 x.t) ++ [if x.a then 1 else 0]
theorem bdL_len (x : Ct) : (bdL x).length = x.s.size + 18 := by
  unfold bdL
  simp only [List.length_append, List.length_singleton, letters_len, gbytes_len, be_len]
  omega
theorem bdL_rng (x : Ct) (h : NameOk x.s) : ∀ y ∈ bdL x, 0 ≤ y ∧ y ≤ 255 := by
  unfold bdL
  refine rng_append (rng_append (rng_append (rng_append (rng_append ?_ (letters_rng _)) (gbytes_rng _)) (be_rng _ _)) (be_rng _ _)) ?_
  · intro y hy
    have := h.le
    simp at hy
    omega
  · intro y hy
    simp at hy
    subst hy
    split <;> omega
theorem name_at (s : ByteArray) (h : NameOk s) (j : Nat) (hj : j < s.size) : (33 : Int) ≤ (s[j].toNat : Int) ∧ (s[j].toNat : Int) ≤ 126 := by
  have h1 := h.rng ((letters s).getD j 0) (by rw [List.getD_eq_getElem?_getD, List.getElem?_eq_getElem (show j < (letters s).length by rw [letters_len]; exact hj)]; exact List.getElem_mem _)
  rw [letters_at s j hj] at h1
  exact h1
set_option maxHeartbeats 800000 in
theorem isName_yes (s : ByteArray) (w : World) (h : NameOk s) : Calls Tryd.prog 40 #[.string s] w fun e w' => e = .returned (.bool true) ∧ w = w' := by
  have HN := hidden (name_at s h)
  have h1 := h.pos
  have h2 := h.le
  clear h
  go_enter Tryd.func40, Tryd.ntmps40
  go_wp2
  go_loop [6] (fun i => ∃ j : Nat, j ≤ s.size ∧ i = .int .i64 j) (fun i => s.size - (intOf i).toNat)
  case atStart => exact ⟨0, by omega, rfl⟩
  case round =>
    obtain ⟨j, hj, rfl⟩ := hrel
    by_cases hlt : j < s.size
    · obtain ⟨a1, a2⟩ := HN.out j hlt
      have b1 : ¬ (s[j].toNat : Int) < 33 := by omega
      have b2 : ¬ (126 : Int) < (s[j].toNat : Int) := by omega
      go_wp2
      go_round
      case rel => exact ⟨j + 1, by omega, by go_num⟩
      case measure => simp [intOf]; omega
    · have g1 : (1 : Int) ≤ (s.size : Int) := by omega
      have g2 : (s.size : Int) ≤ 16 := by omega
      go_wp2
      go_ret
      exact ⟨rfl, rfl⟩
set_option maxHeartbeats 800000 in
theorem rName_yes (s : ByteArray) (w : World) (h : NameOk s) : Calls Tryd.prog 43 #[.string s] w fun e w' => e = .returned (.bool true) ∧ w = w' := by
  have HN := hidden (name_at s h)
  have h1 := h.pos
  have h2 := h.le
  clear h
  have g1 : ¬ (s.size : Int) < 1 := by omega
  have g2 : ¬ (16 : Int) < (s.size : Int) := by omega
  go_enter Tryd.func43, Tryd.ntmps43
  go_wp2
  go_loop [3] (fun i => ∃ j : Nat, j ≤ s.size ∧ i = .int .i64 j) (fun i => s.size - (intOf i).toNat)
  case atStart => exact ⟨0, by omega, rfl⟩
  case round =>
    obtain ⟨j, hj, rfl⟩ := hrel
    by_cases hlt : j < s.size
    · obtain ⟨a1, a2⟩ := HN.out j hlt
      have b1 : ¬ (s[j].toNat : Int) < 33 := by omega
      have b2 : ¬ (126 : Int) < (s[j].toNat : Int) := by omega
      go_wp2
      go_round
      case rel => exact ⟨j + 1, by omega, by go_num⟩
      case measure => simp [intOf]; omega
    · go_wp2
      go_ret
      exact ⟨rfl, rfl⟩
end Go.Proofs.YtkniifopfgeopaaDoor
