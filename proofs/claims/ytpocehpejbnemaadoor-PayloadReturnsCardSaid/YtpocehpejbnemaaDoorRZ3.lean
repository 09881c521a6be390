/-
  What wire.Number returns, for every slice of bytes, place and width.
  What slices.Clone of bytes returns: bytes of the call's own that are those of the argument.
  What wire.Put returns, for every slice of bytes, number and width.
  A row of bytes of the call's own: seen from an earlier place, and in a later world.
  append(b, make([]byte, n)...) on a row of the call's own that is not empty: n zeros more.
  What wire.Slice returns, for every slice of bytes, place and length.
-/
import Derived.Test.YtpocehpejbnemaaDoorRows
import Derived.Test.YtpocehpejbnemaaDoorRZ0
namespace Go.Proofs.YtpocehpejbnemaaDoor
open Go.RowKit
set_option linter.unusedVariables false

theorem isWidth_yes (v : Int) (w : World) (h1 : 1 ≤ v) (h8 : v ≤ 8) : Calls Tryd.prog 107 #[.int .i64 v] w fun e w' => e = .returned (.bool true) ∧ w = w' := by
  go_enter Tryd.func107, Tryd.ntmps107
  go_wp2
  go_ret
  exact ⟨by simp <;> omega, rfl⟩
theorem isWidth_no (v : Int) (w : World) (h : v < 1 ∨ 8 < v) : Calls Tryd.prog 107 #[.int .i64 v] w fun e w' => e = .returned (.bool false) ∧ w = w' := by
  go_enter Tryd.func107, Tryd.ntmps107
  go_wp2
  all_goals go_ret
  all_goals exact ⟨by simp <;> omega, rfl⟩
theorem inside_yes (p : Option Addr) (n c : Nat) (a k : Int) (w : World) (hn : n ≤ 9223372036854775807) (h1 : 0 ≤ a) (h2 : 0 ≤ k) (h3 : k ≤ n - a) :
    Calls Tryd.prog 118 #[.slice p n c, .int .i64 a, .int .i64 k] w fun e w' => e = .returned (.bool true) ∧ w = w' := by
  go_enter Tryd.func118, Tryd.ntmps118
  go_wp2
  go_ret
  exact ⟨by simp <;> omega, rfl⟩
theorem inside_no (p : Option Addr) (n c : Nat) (a k : Int) (w : World) (hn : n ≤ 9223372036854775807) (ha : a ≤ 9223372036854775807) (h : a < 0 ∨ k < 0 ∨ n - a < k) :
    Calls Tryd.prog 118 #[.slice p n c, .int .i64 a, .int .i64 k] w fun e w' => e = .returned (.bool false) ∧ w = w' := by
  by_cases h1 : 0 ≤ a
  · by_cases h2 : 0 ≤ k
    · have h3 : (n : Int) - a < k := by omega
      go_enter Tryd.func118, Tryd.ntmps118
      go_wp2
      all_goals go_ret
      all_goals exact ⟨by simp <;> omega, rfl⟩
    · go_enter Tryd.func118, Tryd.ntmps118
      go_wp2
      all_goals go_ret
      all_goals exact ⟨by simp <;> omega, rfl⟩
  · go_enter Tryd.func118, Tryd.ntmps118
    go_wp2
    all_goals go_ret
    all_goals exact ⟨by simp <;> omega, rfl⟩

set_option maxHeartbeats 400000 in
theorem number_yes (p : Option Addr) (n c : Nat) (xs : List Int) (w : World) (h : Byt w p n c xs) (a k : Nat) (h1 : 1 ≤ k) (h8 : k ≤ 8) (hin : a + k ≤ n) :
    Calls Tryd.prog 114 #[.slice p n c, .int .i64 a, .int .i64 k] w fun e w' => e = .returned (.tuple #[.int .u64 (val ((xs.drop a).take k)), .bool true]) ∧ w = w' := by
  have hn := h.le
  have hcap := h.cap
  obtain ⟨b, o, rfl, hc⟩ := h.at_ (by omega)
  have hl : ((xs.drop a).take k).length = k := by have := h.len; simp; omega
  have hr : ∀ x ∈ (xs.drop a).take k, 0 ≤ x ∧ x ≤ 255 := rng_take (rng_drop h.rng _) _
  have hcc : ∀ j, j < k → w.cell? ⟨b, o + a + j, none⟩ = some (.int .u8 (((xs.drop a).take k).getD j 0)) := fun j hj => by
    rw [Nat.add_assoc, hc (a + j) (by omega)]
    simp [List.getD_eq_getElem?_getD, List.getElem?_take_of_lt hj]
  generalize (xs.drop a).take k = ys at hl hr hcc
  clear hc h
  go_enter Tryd.func114, Tryd.ntmps114
  go_wp2_with (first | (go_at_call 107; refine (isWidth_yes _ _ (by omega) (by omega)).mono ?_; rintro e w' ⟨rfl, rfl⟩) | (go_at_call 118; refine (inside_yes _ _ _ _ _ _ (by omega) (by omega) (by omega) (by omega)).mono ?_; rintro e w' ⟨rfl, rfl⟩))
  go_loop [8, 10, 28] (fun v x i => ∃ j : Nat, j ≤ k ∧ i = .int .i64 j ∧ v = .int .u64 (val (ys.take j))) (fun _ _ i => k - (intOf i).toNat)
  case atStart => exact ⟨0, by omega, rfl, rfl⟩
  case round =>
    obtain ⟨j, hj, rfl, rfl⟩ := hrel
    by_cases hlt : j < k
    · have hcell := hcc j hlt
      have hb := rng_getD hr j
      have hv := val_56 (ys.take j) (rng_take hr j) (by simp; omega)
      have hs := hidden (val_step ys j (by omega))
      have ho := or_byte (val (ys.take j)) (ys.getD j 0) hv.1 hv.2 hb.1 hb.2
      generalize val (ys.take j) = v at *
      generalize ys.getD j 0 = x at *
      clear hcc hr hl
      go_wp2
      go_round
      case rel => exact ⟨j + 1, by omega, by go_num, by rw [hs.out]⟩
      case measure => simp [intOf]; omega
    · obtain rfl : j = k := by omega
      have hy : ys.take j = ys := List.take_of_length_le (by omega)
      clear hcc hr
      go_wp2
      go_ret2
      exact ⟨rfl, rfl⟩

set_option maxHeartbeats 400000 in
theorem number_any (p : Option Addr) (n c : Nat) (xs : List Int) (w : World) (h : Byt w p n c xs) (a k : Int) (ha : -9223372036854775808 ≤ a ∧ a ≤ 9223372036854775807) (hk : -9223372036854775808 ≤ k ∧ k ≤ 9223372036854775807) :
    Calls Tryd.prog 114 #[.slice p n c, .int .i64 a, .int .i64 k] w fun e w' => e = .returned (.tuple #[.int .u64 (numR xs a k).1, .bool (numR xs a k).2]) ∧ w = w' := by
  have hn := h.le
  by_cases hw : 1 ≤ k ∧ k ≤ 8
  · by_cases hi : 0 ≤ a ∧ a + k ≤ n
    · obtain ⟨a, rfl⟩ := Int.eq_ofNat_of_zero_le hi.1
      obtain ⟨k, rfl⟩ := Int.eq_ofNat_of_zero_le (show 0 ≤ k by omega)
      have := number_yes p n c xs w h a k (by omega) (by omega) (by omega)
      rw [numR, if_pos (by have := h.len; omega)]
      exact this
    · rw [numR, if_neg (by have := h.len; omega)]
      clear h
      go_enter Tryd.func114, Tryd.ntmps114
      go_wp2_with (first | (go_at_call 107; refine (isWidth_yes _ _ (by omega) (by omega)).mono ?_; rintro e w' ⟨rfl, rfl⟩) | (go_at_call 118; refine (inside_no _ _ _ _ _ _ (by omega) (by omega) (by omega)).mono ?_; rintro e w' ⟨rfl, rfl⟩))
      go_ret2
      exact ⟨rfl, rfl⟩
  · rw [numR, if_neg (by omega)]
    clear h
    go_enter Tryd.func114, Tryd.ntmps114
    go_wp2_with (first | (go_at_call 107; refine (isWidth_no _ _ (by omega)).mono ?_; rintro e w' ⟨rfl, rfl⟩))
    go_ret2
    exact ⟨rfl, rfl⟩
end Go.Proofs.YtpocehpejbnemaaDoor

namespace Go.Proofs.YtpocehpejbnemaaDoor
open Go.RowKit
set_option linter.unusedVariables false

set_option maxHeartbeats 400000 in
theorem clone_any (p : Option Addr) (n c : Nat) (xs : List Int) (w : World) (h : Byt w p n c xs) (hb : n ≤ 140737488355328) :
    Calls Tryd.prog 62 #[.slice p n c] w fun e w' => ∃ v, e = .returned v ∧ Own w' w.heap.size 5 v xs ∧ Below w.heap.size w w' := by
  have hl := h.len
  have q := fun (w : World) (a : Option Addr) (n c n' c' : Nat) => Lib.run_eql_slice_nil (P := Tryd.prog) w 22 _ a n c n' c' Tryd.underlying22
  cases p with
  | none =>
    have hn : n = 0 := by
      rcases Nat.eq_zero_or_pos n with h0 | h0
      · exact h0
      · obtain ⟨b, o, h, _⟩ := h.at_ h0
        cases h
    subst hn
    obtain rfl : xs = [] := List.eq_nil_of_length_eq_zero hl
    clear h hl
    go_enter Tryd.func62, Tryd.ntmps62
    go_wp2
    go_ret
    exact ⟨_, rfl, Own.nil _ _ _, Below.refl _ _⟩
  | some a =>
    obtain ⟨i0, hi, hz0, hz1, hz2⟩ := info_parts Tryd.infoByte
    have H := hidden h
    clear h
    go_enter Tryd.func62, Tryd.ntmps62
    go_wp2_with (at_builtin; refine wpList_append_byt _ rfl _ _ 22 rfl w.heap.size 5 i0 (.int .u8 0) Tryd.underlying22 hi hz0 hz1 hz2 rfl _ _ rfl (Own.made w w.heap.size 5 (Nat.le_refl _)) _ _ _ _ _ rfl (H.out.alloc _) rfl ?c1 ?c2 ?_)
    case c1 => simp; omega
    case c2 => simp
    intro v w1 hown hg
    go_wp2
    go_ret
    exact ⟨v, rfl, hown, ((Below.refl _ w).alloc (Nat.le_refl _) _).grown hg (by simp) (by intro k hk; simp [Value.ownBlock] at hk; omega)⟩
end Go.Proofs.YtpocehpejbnemaaDoor

namespace Go.Proofs.YtpocehpejbnemaaDoor
open Go.RowKit
set_option linter.unusedVariables false

/-- The result of a function that returns bytes of its own. -/
def BytesPut (w : World) (xs : List Int) (e : Ending) (w' : World) : Prop := ∃ v, e = .returned v ∧ Own w' w.heap.size 5 v xs ∧ Below w.heap.size w w'

set_option maxHeartbeats 400000 in
theorem put_yes (p : Option Addr) (n c : Nat) (xs : List Int) (w : World) (h : Byt w p n c xs) (hb : n ≤ 140737488355000) (v : Int) (hv : 0 ≤ v ∧ v ≤ 18446744073709551615) (k : Nat) (h1 : 1 ≤ k) (h8 : k ≤ 8) :
    Calls Tryd.prog 77 #[.slice p n c, .int .u64 v, .int .i64 k] w (BytesPut w (xs ++ be k v)) := by
  have hn := h.le
  have hl := h.len
  obtain ⟨i0, hi, hz0, hz1, hz2⟩ := info_parts Tryd.infoByte
  have H := hidden h
  clear h
  go_enter Tryd.func77, Tryd.ntmps77
  go_wp2_with (first | (go_at_call 107; refine (isWidth_yes _ _ (by omega) (by omega)).mono ?_; rintro e w' ⟨rfl, rfl⟩) | (at_make; refine wpList_make_byt _ rfl _ _ 22 rfl w.heap.size 5 i0 Tryd.underlying22 hi hz0 hz1 hz2 _ _ _ _ n (n + k) rfl rfl ?m1 ?m2 ?m3 ?m4 (Nat.le_refl _) ?_))
  case m1 => rfl
  case m2 => simp
  case m3 => omega
  case m4 => omega
  intro w1 hown hg
  have hbel := (Below.refl w.heap.size w).grown hg (Nat.le_refl _) (by intro k hk; simp at hk)
  have HS := hidden (H.out.below hbel)
  clear hg
  go_wp2_with (refine wpList_copy_byt _ rfl (.tmp 21) (.tmp 22) 22 rfl w.heap.size 5 Tryd.underlying22 Tryd.sizeByte w.heap.size n (n + k) (List.replicate n 0) rfl ?d1 hown p c xs rfl HS.out ?_)
  try (case d1 => simp)
  intro w2 hown2 hg2
  have hbel2 := hbel.grown hg2 hbel.size (by intro k hk; simp at hk; omega)
  clear hown hbel hg2 HS
  go_wp2
  go_loopw [7, 8] (fun u i wr => ∃ j : Nat, j ≤ k ∧ i = .int .i64 ((j : Int) - 1) ∧ ∃ ys, ys ++ be j v = xs ++ be k v ∧ Own wr w.heap.size 5 u ys ∧ Below w.heap.size w wr) (fun _ i _ => (intOf i + 1).toNat)
  case atStart => exact ⟨k, Nat.le_refl _, rfl, xs, rfl, hown2, hbel2⟩
  case round =>
    obtain ⟨j, hj, rfl, ys, hys, ho, hbl⟩ := hrel
    by_cases hpos : 1 ≤ j
    · obtain ⟨j, rfl⟩ : ∃ m, j = m + 1 := ⟨j - 1, by omega⟩
      have hlen : ys.length ≤ n + 8 := by
        have := congrArg List.length hys
        simp only [List.length_append, be_len] at this
        omega
      have HY := hidden hys
      have HO := hidden ho
      clear hys ho H
      go_wp2_with (at_builtin; refine wpList_append_byt _ rfl _ _ 22 rfl w.heap.size 5 i0 (.int .u8 0) Tryd.underlying22 hi hz0 hz1 hz2 rfl _ _ rfl (HO.out.alloc _) _ _ _ _ _ rfl (one_byte _ _ (v / 2 ^ (8 * j) % 256) ?c0 ?c1) rfl ?c2 ?c3 ?_)
      case c0 => exact byte_rng _
      case c1 => rw [World.cell?_alloc_at _ _ _ _ rfl]; rfl
      case c2 => omega
      case c3 => have := hbl.size; simp; omega
      intro u' w2 hown2 hg2
      have HB2 := hidden ((hbl.alloc hbl.size _).grown hg2 (by have := hbl.size; simp; omega) (fun g hg => (HO.out.lt g hg).1))
      clear hbl hg2 hbel2
      go_wp2
      go_roundw
      case rel => exact ⟨j, by omega, rfl, _, be_next _ _ _ _ HY.out, hown2, HB2.out⟩
      case measure => simp [intOf] <;> omega
    · obtain rfl : j = 0 := by omega
      have e1 : ys = xs ++ be k v := by simpa [be] using hys
      subst e1
      have HO := hidden ho
      have HB := hidden hbl
      clear ho hbl hys H hbel2 hown2
      go_wp2
      go_ret
      exact ⟨_, rfl, HO.out, HB.out⟩

set_option maxHeartbeats 400000 in
theorem put_any (p : Option Addr) (n c : Nat) (xs : List Int) (w : World) (h : Byt w p n c xs) (hb : n ≤ 140737488355000) (v : Int) (hv : 0 ≤ v ∧ v ≤ 18446744073709551615) (k : Int) :
    Calls Tryd.prog 77 #[.slice p n c, .int .u64 v, .int .i64 k] w (BytesPut w (putR xs v k)) := by
  by_cases hk : 1 ≤ k ∧ k ≤ 8
  · obtain ⟨k, rfl⟩ := Int.eq_ofNat_of_zero_le (show 0 ≤ k by omega)
    rw [putR, if_pos hk]
    exact put_yes p n c xs w h hb v hv k (by omega) (by omega)
  · rw [putR, if_neg hk]
    have HC := hidden (clone_any p n c xs w h (by omega))
    clear h
    go_enter Tryd.func77, Tryd.ntmps77
    go_wp2_with (first | (go_at_call 107; refine (isWidth_no _ _ (by omega)).mono ?_; rintro e w' ⟨rfl, rfl⟩) | (go_at_call 62; refine HC.out.mono ?_; rintro e w' ⟨v, rfl, hown, hbel⟩))
    go_ret
    exact ⟨_, rfl, hown, hbel⟩
end Go.Proofs.YtpocehpejbnemaaDoor

namespace Go.Proofs.YtpocehpejbnemaaDoor
open Go.RowKit
set_option linter.unusedVariables false

theorem Own.mono {w : World} {base base' : Nat} {e : TypeId} {v : Value} {xs : List Int} (h : Own w base e v xs) (hb : base' ≤ base) : Own w base' e v xs := by
  refine ⟨h.1, ?_⟩
  rcases h.2 with h1 | ⟨g, cap, cur, hv, hg, rest⟩
  · exact Or.inl h1
  · exact Or.inr ⟨g, cap, cur, hv, by omega, rest⟩
theorem Own.below {w w' : World} {base : Nat} {e : TypeId} {v : Value} {xs : List Int} (h : Own w base e v xs) (hb : Below w.heap.size w w') : Own w' base e v xs :=
  World.ownsRow.kept (row := none) h ⟨hb.os, hb.tape, hb.output, hb.size, fun i hi _ => hb.block i hi⟩ (by
    rcases hv : v.ownBlock with _ | b
    · exact Or.inl rfl
    · exact Or.inr (by simp))
end Go.Proofs.YtpocehpejbnemaaDoor

namespace Go.Proofs.YtpocehpejbnemaaDoor
open Go.RowKit

theorem zeros_list (n : Nat) : (Builtin.zeroCells (Value.int IntKind.u8 0).cells n).toList = (List.replicate n (0 : Int)).map (Value.int .u8) := by
  simp [Builtin.zeroCells, Value.cells]
  apply List.ext_getElem
  · simp
  · intro j h1 h2
    simp [Nat.mod_one]

section
variable {P : Program} (w : World)
theorem run_append_zeros (base : Nat) (t u ty e : TypeId) (i : TypeInfo) (ht : P.underlying t = some (.slice e)) (hu : P.underlying u = some (.int .i64)) (hi : P.info? e = some i) (hz : i.zero = some (.int .u8 0))
    (hsize : i.size = 1) (hby : i.bytes = 1) (g N c : Nat) (xs : List Int) (hown : Own w base e (.slice (some ⟨g, 0, none⟩) N c) xs) (hN : xs.length = N) (n : Nat) (hn : n ≤ 1000) (hNb : N ≤ 10000) (hbase : base ≤ w.heap.size) :
    ∃ v' w', (Builtin.append_ #[t, u] ty #[.slice (some ⟨g, 0, none⟩) N c, .int .i64 n]).run P w = .ok v' w' ∧ Own w' base e v' (xs ++ List.replicate n 0) ∧ w.grownBy w' (some g) := by
  subst hN
  rcases hown.2 with ⟨hv, _⟩ | ⟨g', cap, cur, hv, hbg, hg, hnc, hcm, hcs, htake⟩
  · simp at hv
  simp only [Value.slice.injEq, Option.some.injEq, Addr.mk.injEq, and_true, true_and] at hv
  obtain ⟨rfl, rfl⟩ := hv
  have hw : IntKind.i64.wrap (n : Int) = n := by rw [IntKind.wrap_i64]; omega
  have h1 : ¬ ((n : Int) < 0) := by omega
  have h2 : ¬ (281474976710656 < (n : Int)) := by omega
  have hlz : ((List.replicate n (0 : Int)).map (Value.int .u8)).length = n := by simp
  have ha : ∀ (z : Int) (w' : World), (asInt (.int .i64 z)).run P w' = .ok z w' := fun z w' => by simp [asInt, asIntOf]
  have hw0 : IntKind.i64.wrap 0 = 0 := by decide
  by_cases hroom : xs.length + n ≤ c
  · have hst := run_storeCells_at P g xs.length e ((List.replicate n (0 : Int)).map (Value.int .u8)) 0 cur w hg (by simp [hcs]; omega) (u8_one _)
    simp only [Nat.add_zero] at hst
    refine ⟨.slice (some ⟨g, 0, none⟩) (xs.length + n) c, w.setRow g (cur.toList.take xs.length ++ (List.replicate n (0 : Int)).map (Value.int .u8) ++ cur.toList.drop (xs.length + ((List.replicate n (0 : Int)).map (Value.int .u8)).length)).toArray, ?_, ?_, ⟨rfl, rfl, rfl, by simp, fun k hk hne => setRow_other w g k _ (fun e => hne (by rw [e]))⟩⟩
    · by_cases h0 : n = 0
      · subst h0
        simp only [List.replicate_zero, List.map_nil] at hst
        simp [Builtin.append_, run_underlying ht, run_underlying hu, sizeOf, typeInfo, hi, hsize, hby, Addr.add_lit, ha, hw0, hst]
        intro hh
        omega
      · simp only [List.map_replicate, List.length_replicate, List.append_assoc] at hst
        simp [Builtin.append_, run_underlying ht, run_underlying hu, sizeOf, typeInfo, zeroValue, hz, hi, hroom, hsize, hby, Addr.add_lit, ha, hw, h1, h2, h0, zeros_list, hst]
    · refine ⟨by simp, .inr ⟨g, c, _, by simp, hbg, setRow_heap w g cur _ e _ hg, by simpa using hroom, hcm, ?_, ?_⟩⟩
      · simp [hcs]
        omega
      · rw [Nat.mul_one] at htake
        rw [htake]
        have e1 : (xs ++ List.replicate n 0).length * 1 = (List.map (Value.int IntKind.u8) xs ++ List.map (Value.int IntKind.u8) (List.replicate n 0)).length := by simp
        rw [e1, List.map_append]
        exact List.take_left
  · have holds : ∀ j u, (xs.map (Value.int .u8))[j]? = some u → w.drew.cell? ((⟨g, 0, none⟩ : Addr).add j) = some u := hown.cells (g := g) rfl
    have hfo := run_firstCells_some (P := P) w.drew 1 xs.length ⟨g, 0, none⟩ xs.length c (xs.map (Value.int .u8)) (by simp) holds
    have h0 : n ≠ 0 := by omega
    have h63 : ¬ (9223372036854775807 < ((xs.length : Int) + (n : Int))) := by omega
    have h48 : ¬ (281474976710656 < Builtin.nextslicecap (xs.length + n) c) := by
      have := nextslicecap_le (show c < xs.length + n by omega)
      omega
    have hge := grownCap_ge w (xs.length + n) c e
    have hcm' : grownCap w (xs.length + n) c e ≤ maxLen := grownCap_le_maxLen w (xs.length + n) c e (by unfold maxLen; omega)
    refine ⟨.slice (some ⟨w.heap.size, 0, none⟩) (xs.length + n) (grownCap w (xs.length + n) c e), w.drew.alloc (.cells ((xs.map (Value.int .u8)).toArray ++ ((List.replicate n (0 : Int)).map (Value.int .u8)).toArray ++ Builtin.zeroCells (Value.int IntKind.u8 0).cells (grownCap w (xs.length + n) c e - (xs.length + n))) e), ?_, ?_, ⟨rfl, rfl, rfl, by simp, fun k hk _ => heap_alloc_old w.drew _ hk⟩⟩
    · have hzl : Builtin.zeroCells (Value.int IntKind.u8 0).cells n = ((List.replicate n (0 : Int)).map (Value.int .u8)).toArray := by
        apply Array.ext'
        rw [zeros_list]
      simp [Builtin.append_, run_underlying ht, run_underlying hu, sizeOf, typeInfo, zeroValue, hz, hi, hroom, hsize, hby, ha, hw, h1, h2, h0, h63, h48, Question.forced, hfo, newRow, grownCap, hzl]
    · refine ⟨by simp, .inr ⟨w.heap.size, _, _, by simp, hbase, heap_alloc_new w.drew _, by simpa using hge, hcm', ?_, ?_⟩⟩
      · simp [size_zeroCells, Value.cells]
        omega
      · simp only [Array.toList_append, List.map_append, List.append_assoc]
        have e1 : (xs ++ List.replicate n 0).length * 1 = (List.map (Value.int IntKind.u8) xs ++ List.map (Value.int IntKind.u8) (List.replicate n 0)).length := by simp
        rw [← List.append_assoc, e1]
        exact List.take_left

/-- The same as a law of the walk. -/
theorem wpList_append_zeros {ops : Array Oper} {rest : List Oper} {o : Oper} {a : Act} {Q : Exit → Act → World → Prop} (hgd : o.guard = none) (s x : Operand) (t u : TypeId)
    (ho : o.op = .call { callee := .builtin .append, args := #[s, x], argTypes := #[t, u] })
    (base : Nat) (e : TypeId) (i : TypeInfo) (ht : P.underlying t = some (.slice e)) (hu : P.underlying u = some (.int .i64)) (hi : P.info? e = some i) (hz : i.zero = some (.int .u8 0))
    (hsize : i.size = 1) (hby : i.bytes = 1) (g N c : Nat) (xs : List Int) (hs : a.eval s = .slice (some ⟨g, 0, none⟩) N c) (hown : Own w base e (.slice (some ⟨g, 0, none⟩) N c) xs) (hN : xs.length = N) (z : Int) (n : Nat) (hx : a.eval x = .int .i64 z) (hzn : z = n)
    (hn : n ≤ 1000) (hNb : N ≤ 10000) (hbase : base ≤ w.heap.size)
    (h : ∀ v' w', Own w' base e v' (xs ++ List.replicate n 0) → w.grownBy w' (some g) → wpList P ops Q rest (a.put o.dst v') w') : wpList P ops Q (o :: rest) a w := by
  refine wpList_plain hgd fun K hK => ?_
  subst hzn
  obtain ⟨v', w', hr, h2, h3⟩ := run_append_zeros (P := P) w base t u o.type e i ht hu hi hz hsize hby g N c xs hown hN n hn hNb hbase
  unfold Oper.wp execOp
  simp only [ho, resolve, invoke, builtin, Sem.run_bind, Sem.run_pure, Result.andThen_ok, List.map_toArray, List.map_cons, List.map_nil, hs, hx, hr]
  exact hK _ _ (h v' w' h2 h3)
end
end Go.Proofs.YtpocehpejbnemaaDoor

namespace Go.Proofs.YtpocehpejbnemaaDoor
open Go.RowKit
set_option linter.unusedVariables false

/-- The result of a function that returns bytes and a bool. -/
def BytesOk (w : World) (r : List Int × Bool) (e : Ending) (w' : World) : Prop := ∃ p n c, e = .returned (.tuple #[.slice p n c, .bool r.2]) ∧ Byt w' p n c r.1 ∧ Below w.heap.size w w'

/-- The same; the bytes lie in a block of bytes of the call's own. -/
def BodOk (w : World) (r : List Int × Bool) (e : Ending) (w' : World) : Prop := ∃ p n c, e = .returned (.tuple #[.slice p n c, .bool r.2]) ∧ Bod w' w.heap.size p n c r.1 ∧ Below w.heap.size w w'

set_option maxHeartbeats 400000 in
theorem slice_bod (p : Option Addr) (n c : Nat) (xs : List Int) (w : World) (h : Byt w p n c xs) (hb : n ≤ 140737488355328) (a k : Int) (ha : -9223372036854775808 ≤ a ∧ a ≤ 9223372036854775807) (hk : -9223372036854775808 ≤ k ∧ k ≤ 9223372036854775807) :
    Calls Tryd.prog 105 #[.slice p n c, .int .i64 a, .int .i64 k] w (BodOk w (pieceR xs a k)) := by
  have hn := h.le
  by_cases hi : 0 ≤ a ∧ 0 ≤ k ∧ a + k ≤ n
  · obtain ⟨a, rfl⟩ := Int.eq_ofNat_of_zero_le hi.1
    obtain ⟨k, rfl⟩ := Int.eq_ofNat_of_zero_le hi.2.1
    have hin : a + k ≤ n := by omega
    have hcap := h.cap
    have hp := h.part a (a + k) (by omega) hin
    rw [pieceR, if_pos (by have := h.len; omega)]
    have e1 : (xs.take (a + k)).drop a = (xs.drop a).take k := by rw [List.drop_take]; congr 1; omega
    have hr : ∀ x ∈ (xs.drop a).take k, 0 ≤ x ∧ x ≤ 255 := rng_take (rng_drop h.rng _) _
    rw [e1] at hp
    rw [show a + k - a = k by omega] at hp
    have HR := hidden hr
    clear h hi e1 hr
    by_cases hca : c = a
    · subst hca
      obtain rfl : k = 0 := by omega
      rw [if_pos rfl, Nat.sub_self] at hp
      have HB := hidden hp
      clear hp
      go_enter Tryd.func105, Tryd.ntmps105
      go_wp2_with (first | (go_at_call 118; refine (inside_yes _ _ _ _ _ _ (by omega) (by omega) (by omega) (by omega)).mono ?_; rintro e w' ⟨rfl, rfl⟩))
      refine (clone_any _ _ _ _ _ HB.out (by omega)).mono ?_
      rintro e w' ⟨v, rfl, hown, hbel⟩
      go_wp2
      obtain ⟨p', c', rfl, hby⟩ := hown.bod rfl HR.out
      go_ret2
      exact ⟨p', _, c', rfl, hby, hbel⟩
    · rw [if_neg hca] at hp
      have HB := hidden hp
      clear hp
      go_enter Tryd.func105, Tryd.ntmps105
      go_wp2_with (first | (go_at_call 118; refine (inside_yes _ _ _ _ _ _ (by omega) (by omega) (by omega) (by omega)).mono ?_; rintro e w' ⟨rfl, rfl⟩) | (go_at_call 62; refine (clone_any _ _ _ _ _ HB.out (by omega)).mono ?_; rintro e w' ⟨v, rfl, hown, hbel⟩))
      obtain ⟨p', c', rfl, hby⟩ := hown.bod rfl HR.out
      go_ret2
      exact ⟨p', _, c', rfl, hby, hbel⟩
  · rw [pieceR, if_neg (by have := h.len; omega)]
    clear h
    go_enter Tryd.func105, Tryd.ntmps105
    go_wp2_with (first | (go_at_call 118; refine (inside_no _ _ _ _ _ _ (by omega) (by omega) (by omega)).mono ?_; rintro e w' ⟨rfl, rfl⟩))
    go_ret2
    exact ⟨_, _, _, rfl, Bod.nil _ _ _ _ (Nat.zero_le _), Below.refl _ _⟩

theorem slice_any (p : Option Addr) (n c : Nat) (xs : List Int) (w : World) (h : Byt w p n c xs) (hb : n ≤ 140737488355328) (a k : Int) (ha : -9223372036854775808 ≤ a ∧ a ≤ 9223372036854775807) (hk : -9223372036854775808 ≤ k ∧ k ≤ 9223372036854775807) :
    Calls Tryd.prog 105 #[.slice p n c, .int .i64 a, .int .i64 k] w (BytesOk w (pieceR xs a k)) :=
  (slice_bod p n c xs w h hb a k ha hk).mono fun e w' ⟨p', n', c', he, hy, hb⟩ => ⟨p', n', c', he, hy.byt, hb⟩
end Go.Proofs.YtpocehpejbnemaaDoor
