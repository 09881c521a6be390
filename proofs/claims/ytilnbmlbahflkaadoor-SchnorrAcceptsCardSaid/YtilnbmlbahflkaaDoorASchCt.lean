/-
  Certificates, as values, and the names and bodies of those that are valid.
-/
import Derived.Test.YtilnbmlbahflkaaDoorASch15
import Derived.Test.YtilnbmlbahflkaaDoorAZ6
import Derived.Lib.ConvBytes
import Derived.Lib.AppendStr
namespace Go.Proofs.YtilnbmlbahflkaaDoor
open Go.RowKit
set_option linter.unusedVariables false

/-- A certificate: its name, key, times, authority, and its signature's slice and bytes. -/
structure Ct where
  s : ByteArray
  k : Nat
  f : Int
  t : Int
  a : Bool
  p : Option Addr
  n : Nat
  c : Nat
  g : List Int
def Ct.cs (x : Ct) : List Value := [.string x.s, .int .u64 (x.k : Int), .int .i64 x.f, .int .i64 x.t, .bool x.a, .slice x.p x.n x.c]
def Ct.v (x : Ct) : Value := .agg #[.string x.s, .int .u64 (x.k : Int), .int .i64 x.f, .int .i64 x.t, .bool x.a, .slice x.p x.n x.c]
def KCt : KindR Ct where
  e := 47
  k := 6
  cs := Ct.cs
  len _ := rfl
  one x u hu := by
    simp [Ct.cs] at hu
    rcases hu with rfl | rfl | rfl | rfl | rfl | rfl <;> rfl
  pos := by decide
/-- The name can be a name. -/
structure NameOk (s : ByteArray) : Prop where
  pos : 1 ≤ s.size
  le : s.size ≤ 16
  rng : ∀ x ∈ letters s, 33 ≤ x ∧ x ≤ 126
/-- What is signed can be written. -/
structure CtOk (x : Ct) : Prop where
  nm : NameOk x.s
  kl : x.k < 18446744073709551616
  ke : gel x.k = true
  f0 : 0 ≤ x.f
  ft : x.f ≤ x.t
  t1 : x.t ≤ 2147483647
def bdL (x : Ct) : List Int := (((([(x.s.size : Int)] ++ letters x.s) ++ gbytes x.k) ++ be 4 x.f) ++ be 4 x.t) ++ [if x.a then 1 else 0]
theorem bdL_len (x : Ct) : (bdL x).length = x.s.size + 18 := by
  unfold bdL
  simp only [List.length_append, List.length_singleton, letters_len, gbytes_len, be_len]
  omega
theorem bdL_rng (x : Ct) (h : NameOk x.s) : ∀ y ∈ bdL x, 0 ≤ y ∧ y ≤ 255 := by
  unfold bdL
  refine rng_append (rng_append (rng_append (rng_append (rng_append ?_ (letters_rng _)) (gbytes_rng _)) (be_rng _ _)) (be_rng _ _)) ?_
  · intro y hy
    have := h.le
    simp at hy
    omega
  · intro y hy
    simp at hy
    subst hy
    split <;> omega
theorem name_at (s : ByteArray) (h : NameOk s) (j : Nat) (hj : j < s.size) : (33 : Int) ≤ (s[j].toNat : Int) ∧ (s[j].toNat : Int) ≤ 126 := by
  have h1 := h.rng ((letters s).getD j 0) (by rw [List.getD_eq_getElem?_getD, List.getElem?_eq_getElem (show j < (letters s).length by rw [letters_len]; exact hj)]; exact List.getElem_mem _)
  rw [letters_at s j hj] at h1
  exact h1
set_option maxHeartbeats 800000 in
theorem isName_yes (s : ByteArray) (w : World) (h : NameOk s) : Calls Tryd.prog 60 #[.string s] w fun e w' => e = .returned (.bool true) ∧ w = w' := by
  have HN := hidden (name_at s h)
  have h1 := h.pos
  have h2 := h.le
  clear h
  go_enter Tryd.func60, Tryd.ntmps60
  go_wp2
  go_loop [6] (fun i => ∃ j : Nat, j ≤ s.size ∧ i = .int .i64 j) (fun i => s.size - (intOf i).toNat)
  case atStart => exact ⟨0, by omega, rfl⟩
  case round =>
    obtain ⟨j, hj, rfl⟩ := hrel
    by_cases hlt : j < s.size
    · obtain ⟨a1, a2⟩ := HN.out j hlt
      have b1 : ¬ (s[j].toNat : Int) < 33 := by omega
      have b2 : ¬ (126 : Int) < (s[j].toNat : Int) := by omega
      go_wp2
      go_round
      case rel => exact ⟨j + 1, by omega, by go_num⟩
      case measure => simp [intOf]; omega
    · have g1 : (1 : Int) ≤ (s.size : Int) := by omega
      have g2 : (s.size : Int) ≤ 16 := by omega
      go_wp2
      go_ret
      exact ⟨rfl, rfl⟩
set_option maxHeartbeats 800000 in
theorem rName_yes (s : ByteArray) (w : World) (h : NameOk s) : Calls Tryd.prog 62 #[.string s] w fun e w' => e = .returned (.bool true) ∧ w = w' := by
  have HN := hidden (name_at s h)
  have h1 := h.pos
  have h2 := h.le
  clear h
  have g1 : ¬ (s.size : Int) < 1 := by omega
  have g2 : ¬ (16 : Int) < (s.size : Int) := by omega
  go_enter Tryd.func62, Tryd.ntmps62
  go_wp2
  go_loop [3] (fun i => ∃ j : Nat, j ≤ s.size ∧ i = .int .i64 j) (fun i => s.size - (intOf i).toNat)
  case atStart => exact ⟨0, by omega, rfl⟩
  case round =>
    obtain ⟨j, hj, rfl⟩ := hrel
    by_cases hlt : j < s.size
    · obtain ⟨a1, a2⟩ := HN.out j hlt
      have b1 : ¬ (s[j].toNat : Int) < 33 := by omega
      have b2 : ¬ (126 : Int) < (s[j].toNat : Int) := by omega
      go_wp2
      go_round
      case rel => exact ⟨j + 1, by omega, by go_num⟩
      case measure => simp [intOf]; omega
    · go_wp2
      go_ret
      exact ⟨rfl, rfl⟩
end Go.Proofs.YtilnbmlbahflkaaDoor
