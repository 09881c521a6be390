/-
  What slices.Clone of bytes returns: bytes of the call's own that are those of the argument.
  What wire.Put returns, for every slice of bytes, number and width.
  What the document's own Number returns, for every slice of bytes, place and width.
  A list of choices: its making.
  sha256.Pad: what follows a message.
  slices.Grow of nil, slices.Concat of some slices of bytes.
-/
import Derived.Test.YtkniifopfgeopaaDoorRows
import Derived.Test.YtkniifopfgeopaaDoorHZ4
import Derived.Test.YtkniifopfgeopaaDoorHZ3
import Derived.Test.YtkniifopfgeopaaDoorHZ0
import Derived.Deep.RegionHeld3
import Derived.Deep.CutBlock
namespace Go.Proofs.YtkniifopfgeopaaDoor
open Go.RowKit
set_option linter.unusedVariables false

set_option maxHeartbeats 400000 in
theorem clone_any (p : Option Addr) (n c : Nat) (xs : List Int) (w : World) (h : Byt w p n c xs) (hb : n ≤ 140737488355328) :
    Calls Tryd.prog 68 #[.slice p n c] w fun e w' => ∃ v, e = .returned v ∧ Own w' w.heap.size 5 v xs ∧ Below w.heap.size w w' := by
  have hl := h.len
  have q := fun (w : World) (a : Option Addr) (n c n' c' : Nat) => Lib.run_eql_slice_nil (P := Tryd.prog) w 22 _ a n c n' c' Tryd.underlying22
  cases p with
  | none =>
    have hn : n = 0 := by
      rcases Nat.eq_zero_or_pos n with h0 | h0
      · exact h0
      · obtain ⟨b, o, h, _⟩ := h.at_ h0
        cases h
    subst hn
    obtain rfl : xs = [] := List.eq_nil_of_length_eq_zero hl
    clear h hl
    go_enter Tryd.func68, Tryd.ntmps68
    go_wp2
    go_ret
    exact ⟨_, rfl, Own.nil _ _ _, Below.refl _ _⟩
  | some a =>
    obtain ⟨i0, hi, hz0, hz1, hz2⟩ := info_parts Tryd.infoByte
    have H := hidden h
    clear h
    go_enter Tryd.func68, Tryd.ntmps68
    go_wp2_with (at_builtin; refine wpList_append_byt _ rfl _ _ 22 rfl w.heap.size 5 i0 (.int .u8 0) Tryd.underlying22 hi hz0 hz1 hz2 rfl _ _ rfl (Own.made w w.heap.size 5 (Nat.le_refl _)) _ _ _ _ _ rfl (H.out.alloc _) rfl ?c1 ?c2 ?_)
    case c1 => simp; omega
    case c2 => simp
    intro v w1 hown hg
    go_wp2
    go_ret
    exact ⟨v, rfl, hown, ((Below.refl _ w).alloc (Nat.le_refl _) _).grown hg (by simp) (by intro k hk; simp [Value.ownBlock] at hk; omega)⟩
end Go.Proofs.YtkniifopfgeopaaDoor

namespace Go.Proofs.YtkniifopfgeopaaDoor
open Go.RowKit
set_option linter.unusedVariables false

/-- The result of a function that returns bytes of its own. -/
def BytesPut (w : World) (xs : List Int) (e : Ending) (w' : World) : Prop := ∃ v, e = .returned v ∧ Own w' w.heap.size 5 v xs ∧ Below w.heap.size w w'

set_option maxHeartbeats 400000 in
theorem put_yes (p : Option Addr) (n c : Nat) (xs : List Int) (w : World) (h : Byt w p n c xs) (hb : n ≤ 140737488355000) (v : Int) (hv : 0 ≤ v ∧ v ≤ 18446744073709551615) (k : Nat) (h1 : 1 ≤ k) (h8 : k ≤ 8) :
    Calls Tryd.prog 42 #[.slice p n c, .int .u64 v, .int .i64 k] w (BytesPut w (xs ++ be k v)) := by
  have hn := h.le
  have hl := h.len
  obtain ⟨i0, hi, hz0, hz1, hz2⟩ := info_parts Tryd.infoByte
  have H := hidden h
  clear h
  go_enter Tryd.func42, Tryd.ntmps42
  go_wp2_with (first | (go_at_call 67; refine (isWidth_yes _ _ (by omega) (by omega)).mono ?_; rintro e w' ⟨rfl, rfl⟩) | (at_make; refine wpList_make_byt _ rfl _ _ 22 rfl w.heap.size 5 i0 Tryd.underlying22 hi hz0 hz1 hz2 _ _ _ _ n (n + k) rfl rfl ?m1 ?m2 ?m3 ?m4 (Nat.le_refl _) ?_))
  case m1 => rfl
  case m2 => simp
  case m3 => omega
  case m4 => omega
  intro w1 hown hg
  have hbel := (Below.refl w.heap.size w).grown hg (Nat.le_refl _) (by intro k hk; simp at hk)
  have HS := hidden (H.out.below hbel)
  clear hg
  go_wp2_with (refine wpList_copy_byt _ rfl (.tmp 21) (.tmp 22) 22 rfl w.heap.size 5 Tryd.underlying22 Tryd.sizeByte w.heap.size n (n + k) (List.replicate n 0) rfl ?d1 hown p c xs rfl HS.out ?_)
  try (case d1 => simp)
  intro w2 hown2 hg2
  have hbel2 := hbel.grown hg2 hbel.size (by intro k hk; simp at hk; omega)
  clear hown hbel hg2 HS
  go_wp2
  go_loopw [7, 8] (fun u i wr => ∃ j : Nat, j ≤ k ∧ i = .int .i64 ((j : Int) - 1) ∧ ∃ ys, ys ++ be j v = xs ++ be k v ∧ Own wr w.heap.size 5 u ys ∧ Below w.heap.size w wr) (fun _ i _ => (intOf i + 1).toNat)
  case atStart => exact ⟨k, Nat.le_refl _, rfl, xs, rfl, hown2, hbel2⟩
  case round =>
    obtain ⟨j, hj, rfl, ys, hys, ho, hbl⟩ := hrel
    by_cases hpos : 1 ≤ j
    · obtain ⟨j, rfl⟩ : ∃ m, j = m + 1 := ⟨j - 1, by omega⟩
      have hlen : ys.length ≤ n + 8 := by
        have := congrArg List.length hys
        simp only [List.length_append, be_len] at this
        omega
      have HY := hidden hys
      have HO := hidden ho
      clear hys ho H
      go_wp2_with (at_builtin; refine wpList_append_byt _ rfl _ _ 22 rfl w.heap.size 5 i0 (.int .u8 0) Tryd.underlying22 hi hz0 hz1 hz2 rfl _ _ rfl (HO.out.alloc _) _ _ _ _ _ rfl (one_byte _ _ (v / 2 ^ (8 * j) % 256) ?c0 ?c1) rfl ?c2 ?c3 ?_)
      case c0 => exact byte_rng _
      case c1 => rw [World.cell?_alloc_at _ _ _ _ rfl]; rfl
      case c2 => omega
      case c3 => have := hbl.size; simp; omega
      intro u' w2 hown2 hg2
      have HB2 := hidden ((hbl.alloc hbl.size _).grown hg2 (by have := hbl.size; simp; omega) (fun g hg => (HO.out.lt g hg).1))
      clear hbl hg2 hbel2
      go_wp2
      go_roundw
      case rel => exact ⟨j, by omega, rfl, _, be_next _ _ _ _ HY.out, hown2, HB2.out⟩
      case measure => simp [intOf] <;> omega
    · obtain rfl : j = 0 := by omega
      have e1 : ys = xs ++ be k v := by simpa [be] using hys
      subst e1
      have HO := hidden ho
      have HB := hidden hbl
      clear ho hbl hys H hbel2 hown2
      go_wp2
      go_ret
      exact ⟨_, rfl, HO.out, HB.out⟩

end Go.Proofs.YtkniifopfgeopaaDoor

namespace Go.Proofs.YtkniifopfgeopaaDoor
open Go.RowKit
set_option linter.unusedVariables false

set_option maxHeartbeats 400000 in
theorem rnumber_yes (p : Option Addr) (n c : Nat) (xs : List Int) (w : World) (h : Byt w p n c xs) (a k : Nat) (h1 : 1 ≤ k) (h8 : k ≤ 8) (hin : a + k ≤ n) :
    Calls Tryd.prog 38 #[.slice p n c, .int .i64 a, .int .i64 k] w fun e w' => e = .returned (.tuple #[.int .u64 (val ((xs.drop a).take k)), .bool true]) ∧ w = w' := by
  have hn := h.le
  have hcap := h.cap
  obtain ⟨b, o, rfl, hc⟩ := h.at_ (by omega)
  have hl : ((xs.drop a).take k).length = k := by have := h.len; simp; omega
  have hr : ∀ x ∈ (xs.drop a).take k, 0 ≤ x ∧ x ≤ 255 := rng_take (rng_drop h.rng _) _
  have hcc : ∀ j, j < k → w.cell? ⟨b, o + (a + j), none⟩ = some (.int .u8 (((xs.drop a).take k).getD j 0)) := fun j hj => by
    rw [hc (a + j) (by omega)]
    simp [List.getD_eq_getElem?_getD, List.getElem?_take_of_lt hj]
  generalize (xs.drop a).take k = ys at hl hr hcc
  clear hc h
  go_enter Tryd.func38, Tryd.ntmps38
  go_wp2
  go_loop [8, 9] (fun v i => ∃ j : Nat, j ≤ k ∧ i = .int .i64 ((a + j : Nat) : Int) ∧ v = .int .u64 (val (ys.take j))) (fun _ i => a + k - (intOf i).toNat)
  case atStart => exact ⟨0, by omega, rfl, rfl⟩
  case round =>
    obtain ⟨j, hj, rfl, rfl⟩ := hrel
    by_cases hlt : j < k
    · have hcell := hcc j hlt
      have hb := rng_getD hr j
      have hv := val_56 (ys.take j) (rng_take hr j) (by simp; omega)
      have hs := hidden (val_step ys j (by omega))
      have ho := or_byte (val (ys.take j)) (ys.getD j 0) hv.1 hv.2 hb.1 hb.2
      generalize val (ys.take j) = v at *
      generalize ys.getD j 0 = x at *
      clear hcc hr hl
      go_wp2
      go_round
      case rel => exact ⟨j + 1, by omega, by go_num, by rw [hs.out]⟩
      case measure => simp [intOf]; omega
    · obtain rfl : j = k := by omega
      have hy : ys.take j = ys := List.take_of_length_le (by omega)
      clear hcc hr
      go_wp2
      go_ret2
      exact ⟨rfl, rfl⟩

end Go.Proofs.YtkniifopfgeopaaDoor

namespace Go.Proofs.YtkniifopfgeopaaDoor
open Go.RowKit
set_option linter.unusedVariables false

theorem Cod.alloc {W w : World} {k : Nat} (h : Cod W w k) (o : Obj) : Cod W (w.alloc o) k := h.below ((Below.refl _ _).alloc (Nat.le_refl _) o)
/-- A store into another block of the call's own. -/
theorem Cod.set {W w : World} {k : Nat} (h : Cod W w k) (g j : Nat) (v : Value) (hg : W.heap.size ≤ g) (hne : g ≠ k) : Cod W (w.setCell ⟨g, j, none⟩ v) k :=
  h.grown (grown_set w g j v) (by simp; omega) (by simp; omega)

set_option maxHeartbeats 400000 in
theorem new_any (W : World) (p : Option Addr) (n c : Nat) (xs : List Int) (w : World) (h : Byt W p n c xs) (hb : Below W.heap.size W w) (m : Nat) (hm : m ≤ 9223372036854775807) :
    Calls Tryd.prog 5 #[.slice p n c, .int .i64 m] w fun e w' => e = .returned (.pointer (some ⟨w.heap.size, 0, none⟩)) ∧ Cod W w' w.heap.size ∧ Below w.heap.size w w' := by
  have hn := h.le
  have hcap := h.cap
  have hbig := h.big
  have hs := hb.size
  unfold maxLen at hbig
  have key : ∀ (w' : World) p n c xs, Byt W p n c xs → w' = w.alloc (.cells #[.slice p n c, .int .i64 0] 58) → Cod W w' w.heap.size ∧ Below w.heap.size w w' := by
    intro w' p n c xs hx hw
    have hbb := (Below.refl w.heap.size w).alloc (Nat.le_refl _) (.cells #[.slice p n c, .int .i64 0] 58)
    subst hw
    refine ⟨⟨hs, hb.alloc hs _, fun j => by go_simp, p, n, c, xs, 0, hx, Nat.zero_le _, by go_simp, by go_simp⟩, hbb⟩
  have HK := hidden key
  have H := hidden h
  clear key h hb
  by_cases hlt : m < n
  · go_enter Tryd.func5, Tryd.ntmps5
    go_wp2
    go_ret
    exact ⟨rfl, HK.out _ _ _ _ _ (H.out.front m (by omega)) rfl⟩
  · go_enter Tryd.func5, Tryd.ntmps5
    go_wp2
    go_ret
    exact ⟨rfl, HK.out _ _ _ _ _ H.out rfl⟩
end Go.Proofs.YtkniifopfgeopaaDoor

namespace Go.Proofs.YtkniifopfgeopaaDoor
open Go.RowKit
set_option linter.unusedVariables false

set_option maxHeartbeats 400000 in
set_option maxRecDepth 100000 in
theorem pad_any (n : Nat) (hn : n ≤ 1152921504606846975) (w : World) : Calls Tryd.prog 83 #[.int .i64 n] w (BytesPut w (padS n)) := by
  obtain ⟨i0, hi, hz0, hz1, hz2⟩ := info_parts Tryd.infoByte
  have h0 : ¬ (n : Int) < 0 := by omega
  have hzl := padZ_lt n
  have hz : (64 - ((n : Int) % 64 + 1 + 8) % 64) % 64 = (padZ n : Int) := by unfold padZ; omega
  have HE : Hid (padS n = ((List.replicate (padZ n + 1) 0).set 0 128) ++ be 8 ((n : Int) * 8)) := by
    unfold padS
    rw [List.replicate_succ, List.set_cons_zero]
    rfl
  have HR : Hid (∀ x ∈ (List.replicate (padZ n + 1) (0 : Int)).set 0 128, 0 ≤ x ∧ x ≤ 255) := rng_set (fun x hx => by rw [List.mem_replicate] at hx; omega) 0 (by omega)
  generalize padZ n = z at *
  have HZ := hidden hz
  go_enter Tryd.func83, Tryd.ntmps83
  go_wp2_with (first
    | (at_make; refine wpList_make_byt _ rfl _ _ 22 rfl w.heap.size 5 i0 Tryd.underlying22 hi hz0 hz1 hz2 _ _ _ _ (z + 1) (z + 1) rfl rfl ?m1 ?m2 ?m3 ?m4 (Nat.le_refl _) ?_)
    | fail)
  case m1 => omega
  case m2 => omega
  case m4 => omega
  intro w1 hown hg
  have hc := (hown.at_ (n := z + 1) (by simp) (by omega))
  obtain ⟨g, c, hv, _, hgl, hcell, hfr⟩ := hc
  simp only [Value.slice.injEq, Option.some.injEq, Addr.mk.injEq] at hv
  obtain ⟨⟨rfl, _⟩, _, rfl⟩ := hv
  have hc0 := hcell 0 (by omega)
  have hf0 := hfr 0
  have hset := hown.set (by simp) 0 128
  have HB := hidden (((Below.refl w.heap.size w).grown hg (Nat.le_refl _) (by simp)).setCell (p := ⟨w.heap.size, 0, none⟩) (Nat.le_refl _) (.int .u8 128))
  obtain ⟨p2, c2, hv2, hbyt⟩ := hset.bytN rfl (N := z + 1) (by simp) HR.out
  simp only [Value.slice.injEq] at hv2
  obtain ⟨rfl, _, rfl⟩ := hv2
  have hw : IntKind.u64.wrap (n : Int) = n := wraps_u64 _ (by omega) (by omega)
  have hw8 : (n : Int) * 8 % 18446744073709551616 = (n : Int) * 8 := by omega
  have HP : Hid (Calls Tryd.prog 42 #[.slice (some ⟨w.heap.size, 0, none⟩) (z + 1) (z + 1), .int .u64 ((n : Int) * 8), .int .i64 8] (w1.setCell ⟨w.heap.size, 0, none⟩ (.int .u8 128)) (BytesPut (w1.setCell ⟨w.heap.size, 0, none⟩ (.int .u8 128)) (padS n))) := by
    have := put_yes _ (z + 1) _ _ _ hbyt (by omega) ((n : Int) * 8) (by omega) 8 (by omega) (by omega)
    rw [← HE.out] at this
    exact this
  have hset' := hidden hset
  clear hset hown hg hcell hfr hbyt HE HR hz HZ
  go_wp2_with (first
    | (go_at_call 42; (with_reducible refine (HP.out).mono ?_); rintro e w' ⟨v, rfl, hown, hbel⟩)
    | fail)
  go_ret
  exact ⟨_, rfl, hown.mono (by simpa using HB.out.size), HB.out.trans (hbel.mono (by simpa using HB.out.size))⟩
end Go.Proofs.YtkniifopfgeopaaDoor

namespace Go.Proofs.YtkniifopfgeopaaDoor
open Go.RowKit
set_option linter.unusedVariables false

section
variable {P : Program} (w : World)
theorem run_append_nilz (base : Nat) (t u ty e : TypeId) (i : TypeInfo) (ht : P.underlying t = some (.slice e)) (hu : P.underlying u = some (.int .i64)) (hi : P.info? e = some i) (hz : i.zero = some (.int .u8 0))
    (hsize : i.size = 1) (hby : i.bytes = 1) (n : Nat) (h0 : n ≠ 0) (hn : n ≤ 140737488355328) (hbase : base ≤ w.heap.size) :
    ∃ c w', (Builtin.append_ #[t, u] ty #[.slice none 0 0, .int .i64 n]).run P w = .ok (.slice (some ⟨w.heap.size, 0, none⟩) n c) w' ∧ Own w' base e (.slice (some ⟨w.heap.size, 0, none⟩) n c) (List.replicate n 0) ∧ w.grownBy w' none := by
  have hw : IntKind.i64.wrap (n : Int) = n := by rw [IntKind.wrap_i64]; omega
  have h1 : ¬ ((n : Int) < 0) := by omega
  have h2 : ¬ (281474976710656 < (n : Int)) := by omega
  have ha : ∀ (z : Int) (w' : World), (asInt (.int .i64 z)).run P w' = .ok z w' := fun z w' => by simp [asInt, asIntOf]
  have hw0 : IntKind.i64.wrap 0 = 0 := by decide
  have h63 : ¬ (9223372036854775807 < (n : Int)) := by omega
  have h48 : ¬ (281474976710656 < Builtin.nextslicecap n 0) := by
    have := nextslicecap_le (show 0 < n by omega)
    omega
  have hge := grownCap_ge w n 0 e
  have hcm' : grownCap w n 0 e ≤ maxLen := grownCap_le_maxLen w n 0 e (by unfold maxLen; omega)
  have hroom : ¬ n ≤ 0 := by omega
  refine ⟨grownCap w n 0 e, w.drew.alloc (.cells (((List.replicate n (0 : Int)).map (Value.int .u8)).toArray ++ Builtin.zeroCells (Value.int IntKind.u8 0).cells (grownCap w n 0 e - n)) e), ?_, ?_, ⟨rfl, rfl, rfl, by simp, fun k hk _ => heap_alloc_old w.drew _ hk⟩⟩
  · have hzl : Builtin.zeroCells (Value.int IntKind.u8 0).cells n = ((List.replicate n (0 : Int)).map (Value.int .u8)).toArray := by
      apply Array.ext'
      rw [zeros_list]
    simp [Builtin.append_, run_underlying ht, run_underlying hu, sizeOf, typeInfo, zeroValue, hz, hi, hsize, hby, ha, hw, h1, h2, h0, h63, h48, Question.forced, newRow, grownCap, hzl, Builtin.firstCells]
  · refine ⟨by simp, .inr ⟨w.heap.size, _, _, by simp, hbase, heap_alloc_new w.drew _, by simpa using hge, hcm', ?_, ?_⟩⟩
    · simp [size_zeroCells, Value.cells]
      omega
    · simp only [Array.toList_append, List.length_replicate, Nat.mul_one]
      exact List.take_left' (show (List.map (Value.int IntKind.u8) (List.replicate n (0 : Int))).length = n by rw [List.length_map, List.length_replicate])
theorem wpList_append_nilz {ops : Array Oper} {rest : List Oper} {o : Oper} {a : Act} {Q : Exit → Act → World → Prop} (hgd : o.guard = none) (s x : Operand) (t u : TypeId)
    (ho : o.op = .call { callee := .builtin .append, args := #[s, x], argTypes := #[t, u] })
    (base : Nat) (e : TypeId) (i : TypeInfo) (ht : P.underlying t = some (.slice e)) (hu : P.underlying u = some (.int .i64)) (hi : P.info? e = some i) (hz : i.zero = some (.int .u8 0))
    (hsize : i.size = 1) (hby : i.bytes = 1) (hs : a.eval s = .slice none 0 0) (z : Int) (n : Nat) (hx : a.eval x = .int .i64 z) (hzn : z = n)
    (h0 : n ≠ 0) (hn : n ≤ 140737488355328) (hbase : base ≤ w.heap.size)
    (h : ∀ c w', Own w' base e (.slice (some ⟨w.heap.size, 0, none⟩) n c) (List.replicate n 0) → w.grownBy w' none → wpList P ops Q rest (a.put o.dst (.slice (some ⟨w.heap.size, 0, none⟩) n c)) w') : wpList P ops Q (o :: rest) a w := by
  refine wpList_plain hgd fun K hK => ?_
  subst hzn
  obtain ⟨c, w', hr, h2, h3⟩ := run_append_nilz (P := P) w base t u o.type e i ht hu hi hz hsize hby n h0 hn hbase
  unfold Oper.wp execOp
  simp only [ho, resolve, invoke, builtin, Sem.run_bind, Sem.run_pure, Result.andThen_ok, List.map_toArray, List.map_cons, List.map_nil, hs, hx, hr]
  exact hK _ _ (h c w' h2 h3)
end

/-- A row that was cut to no element. -/
theorem Own.cut0 {w : World} {base : Nat} {e : TypeId} {g n c : Nat} {xs : List Int} (h : Own w base e (.slice (some ⟨g, 0, none⟩) n c) xs) : Own w base e (.slice (some ⟨g, 0, none⟩) 0 c) [] := by
  refine ⟨rfl, ?_⟩
  rcases h.2 with ⟨hv, _⟩ | ⟨g', cap, cur, hv, hbg, hg, hnc, hcm, hcs, htake⟩
  · simp at hv
  · simp at hv
    obtain ⟨rfl, _, rfl⟩ := hv
    exact Or.inr ⟨g, c, cur, rfl, hbg, hg, Nat.zero_le _, hcm, hcs, by simp⟩

set_option maxHeartbeats 400000 in
set_option maxRecDepth 100000 in
theorem grow_nil (n : Nat) (hn : n ≤ 140737488355328) (w : World) :
    Calls Tryd.prog 62 #[.slice none 0 0, .int .i64 n] w fun e w' => ∃ v, e = .returned v ∧ Own w' w.heap.size 5 v [] ∧ Below w.heap.size w w' := by
  obtain ⟨i0, hi0, hz0, hz1, hz2⟩ := info_parts Tryd.infoByte
  by_cases h0 : n = 0
  · subst h0
    go_enter Tryd.func62, Tryd.ntmps62
    go_wp2
    go_ret
    exact ⟨_, rfl, Own.nil _ _ _, Below.refl _ _⟩
  · have hpos : (n : Int) > 0 := by omega
    go_enter Tryd.func62, Tryd.ntmps62
    go_wp2_with (first
      | (at_builtin; go_loud (refine wpList_append_nilz _ rfl _ _ 22 3 rfl w.heap.size 5 i0 Tryd.underlying22 Tryd.underlying3 hi0 hz0 hz1 hz2 rfl _ n rfl (by first | rfl | go_num) h0 hn (Nat.le_refl _) ?_))
      | fail)
    intro c w1 hown hg
    have HO := hidden hown
    have hc := hown.2
    have hcap : n ≤ c := by
      rcases hown.2 with ⟨hv, _⟩ | ⟨g', cap, cur, hv, hbg, hg', hnc, hcm, hcs, htake⟩
      · simp at hv
      · simp at hv
        obtain ⟨rfl, rfl⟩ := hv
        simpa using hnc
    have HB := hidden ((Below.refl w.heap.size w).grown hg (Nat.le_refl _) (by simp))
    clear hown hg hc
    go_wp2
    go_ret
    exact ⟨_, rfl, HO.out.cut0, HB.out⟩

/-- A part: its slice value and its bytes. -/
structure Part where
  p : Option Addr
  n : Nat
  c : Nat
  xs : List Int
/-- The slice of slices holds the parts. -/
structure Parts (w : World) (q : Option Addr) (m d : Nat) (l : List Part) : Prop where
  len : l.length = m
  cap : m ≤ d
  big : d ≤ maxLen
  mem : 0 < m → ∃ g, q = some ⟨g, 0, none⟩ ∧ ∀ j (hj : j < l.length), w.cell? ⟨g, j, none⟩ = some (.slice l[j].p l[j].n l[j].c)
  byt : ∀ x ∈ l, Byt w x.p x.n x.c x.xs
def bytesOf (l : List Part) : List Int := l.flatMap Part.xs
def sizeOf' (l : List Part) : Nat := (l.map Part.n).sum
theorem Parts.below {w w' : World} {q : Option Addr} {m d : Nat} {l : List Part} (h : Parts w q m d l) (hb : Below w.heap.size w w') : Parts w' q m d l :=
  ⟨h.len, h.cap, h.big, fun h0 => by
    obtain ⟨g, e, hc⟩ := h.mem h0
    exact ⟨g, e, fun j hj => cell_below hb _ _ (hc j hj)⟩, fun x hx => (h.byt x hx).below hb⟩
theorem bytesOf_len' {w : World} {l : List Part} (hb : ∀ x ∈ l, Byt w x.p x.n x.c x.xs) : (bytesOf l).length = sizeOf' l := by
  induction l with
  | nil => rfl
  | cons x l ih =>
    have h1 := (hb x (by simp)).len
    have h2 := ih (fun y hy => hb y (by simp [hy]))
    simp only [bytesOf, sizeOf', List.flatMap_cons, List.length_append, List.map_cons, List.sum_cons] at h2 ⊢
    omega
theorem sizeOf_take (l : List Part) (j : Nat) (hj : j < l.length) : sizeOf' (l.take (j + 1)) = sizeOf' (l.take j) + l[j].n := by
  unfold sizeOf'
  rw [List.take_succ_eq_append_getElem hj, List.map_append, List.sum_append]
  simp
theorem sizeOf_le (l : List Part) (j : Nat) : sizeOf' (l.take j) ≤ sizeOf' l := by
  unfold sizeOf'
  conv => rhs; rw [← List.take_append_drop j l]
  rw [List.map_append, List.sum_append]
  omega
theorem bytesOf_take (l : List Part) (j : Nat) (hj : j < l.length) : bytesOf (l.take (j + 1)) = bytesOf (l.take j) ++ l[j].xs := by
  unfold bytesOf
  rw [List.take_succ_eq_append_getElem hj, List.flatMap_append]
  simp

set_option maxHeartbeats 1600000 in
set_option maxRecDepth 100000 in
theorem concat_any (q : Option Addr) (m d : Nat) (l : List Part) (w : World) (h : Parts w q m d l) (hs : sizeOf' l ≤ 140737488355328) :
    Calls Tryd.prog 35 #[.slice q m d] w fun e w' => ∃ v, e = .returned v ∧ Own w' w.heap.size 5 v (bytesOf l) ∧ Below w.heap.size w w' := by
  obtain ⟨i0, hi0, hz0, hz1, hz2⟩ := info_parts Tryd.infoByte
  have H := hidden h
  have hm := h.cap
  have hbig := h.big
  unfold maxLen at hbig
  have HL := hidden h.len
  have HS := hidden (sizeOf_le l)
  clear h
  go_enter Tryd.func35, Tryd.ntmps35
  go_upto_region 3 with fail
  go_wp2_with fail
  go_loopw [3, 11] (fun z i wr => ∃ j : Nat, j ≤ m ∧ i = .int .i64 j ∧ z = .int .i64 (sizeOf' (l.take j) : Nat) ∧ wr = w) (fun _ i _ => m - (intOf i).toNat)
  case atStart => exact ⟨0, by omega, rfl, rfl, rfl⟩
  case round =>
    obtain ⟨j, hj, rfl, rfl, rfl⟩ := hrel
    by_cases hlt : j < m
    · have hlt' : (j : Int) < m := by omega
      have hjl : j < l.length := by rw [HL.out]; exact hlt
      obtain ⟨g, rfl, hc⟩ := H.out.mem (by omega)
      have c0 := hc j hjl
      have hst := sizeOf_take l j hjl
      have hsl := HS.out (j + 1)
      have hny := (H.out.byt _ (List.getElem_mem hjl)).len
      generalize l[j] = x at *
      obtain ⟨xp, xn, xc, xx⟩ := x
      simp only at c0 hst
      obtain ⟨S, hS⟩ : ∃ S, sizeOf' (l.take j) = S := ⟨_, rfl⟩
      obtain ⟨S', hS'⟩ : ∃ S, sizeOf' (l.take (j + 1)) = S := ⟨_, rfl⟩
      have HS' := hidden hS'
      rw [hS, hS'] at hst
      rw [hS'] at hsl
      rw [hS]
      have hw : IntKind.i64.wrap ((S : Int) + xn) = (S : Int) + xn := by rw [IntKind.wrap_i64]; omega
      have hnn : ¬ ((S : Int) + xn < 0) := by omega
      clear hc hny hS hS'
      go_wp2
      go_roundw
      case rel => exact ⟨j + 1, by omega, by go_num, by rw [HS'.out, hst]; simp, trivial⟩
      case measure => simp [intOf]; omega
    · obtain rfl : j = m := by omega
      rename World => w0
      have hst : sizeOf' (l.take j) = sizeOf' l := by rw [List.take_of_length_le (by rw [HL.out]; exact Nat.le_refl _)]
      rw [hst]
      go_upto_region 11 with (first
        | (go_at_call 62; (with_reducible refine (grow_nil (sizeOf' l) hs _).mono ?_); rintro e w1 ⟨v1, rfl, ho, hb⟩; have HO := hidden ho; have HB := hidden hb; clear ho hb)
        | fail)
      go_wp2_with fail
      go_loopw [6, 27] (fun v i wx => ∃ k : Nat, k ≤ j ∧ i = .int .i64 k ∧ Own wx w0.heap.size 5 v (bytesOf (l.take k)) ∧ Below w0.heap.size w0 wx) (fun _ i _ => j - (intOf i).toNat)
      case atStart => exact ⟨0, by omega, rfl, HO.out, HB.out⟩
      case round =>
        obtain ⟨k, hk, rfl, ho, hb⟩ := hrel
        have HO := hidden ho
        have HB := hidden hb
        by_cases hlt : k < j
        · have hlt' : (k : Int) < j := by omega
          have hkl : k < l.length := by rw [HL.out]; exact hlt
          obtain ⟨g, rfl, hc⟩ := (H.out.below hb).mem (by omega)
          have c0 := hc k hkl
          have hbt := bytesOf_take l k hkl
          have hst2 := sizeOf_take l k hkl
          have hsl := HS.out (k + 1)
          have HY := hidden ((H.out.byt _ (List.getElem_mem hkl)).below hb)
          have hlen : (bytesOf (l.take k)).length = sizeOf' (l.take k) := bytesOf_len' (w := w0) (fun x hx => H.out.byt x (List.mem_of_mem_take hx))
          generalize l[k] = x at *
          obtain ⟨xp, xn, xc, xx⟩ := x
          simp only at c0 hst2 hbt HY
          have HBT := hidden hbt
          have hroom : (bytesOf (l.take k)).length + xn ≤ 140737488355328 := by omega
          clear hc hbt hlen hst2 hsl ho hb
          go_wp2_with (first
            | (at_builtin; go_loud (refine wpList_append_byt _ rfl _ _ 22 rfl w0.heap.size 5 i0 (.int .u8 0) Tryd.underlying22 hi0 hz0 hz1 hz2 rfl _ _ rfl HO.out _ _ _ _ _ rfl HY.out rfl hroom HB.out.size ?_))
            | fail)
          intro v2 w2 ho2 hg2
          have HB2 := hidden (HB.out.grown hg2 HB.out.size (fun i hi => (HO.out.lt i hi).1))
          rw [← HBT.out] at ho2
          have HO2 := hidden ho2
          clear ho2 hg2 HO HB
          go_wp2
          go_roundw
          case rel => exact ⟨k + 1, by omega, by go_num, HO2.out, HB2.out⟩
          case measure => simp [intOf]; omega
        · obtain rfl : k = j := by omega
          have hbt : bytesOf (l.take k) = bytesOf l := by rw [List.take_of_length_le (by rw [HL.out]; exact Nat.le_refl _)]
          rw [hbt] at HO
          clear ho hb
          go_wp2
          go_ret
          exact ⟨_, rfl, HO.out, HB.out⟩
end Go.Proofs.YtkniifopfgeopaaDoor
