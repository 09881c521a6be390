/-
  append(b, make([]byte, n)...) on a row of the call's own that is not empty: n zeros more.
  slices.Grow of nil, slices.Concat of some slices of bytes.
  Bytes that lie beyond a place; what the fixed part and some parts behind it make.
  The header of a message as six numbers, and what Check and Request answer of it.
  A header that lies in a block of the call's own.
  Returning a header that lies in a block of the call's own.
  A list of choices: a number of 64 bits.
  The cursor that header.Parse reads with: a field behind the other, and an error that stays.
  What the document's own Number returns, for every slice of bytes, place and width.
-/
import Derived.Test.YtkniifopfgeopaaGreatJZ0
import Derived.Test.YtkniifopfgeopaaGreatJZ2
import Derived.Test.YtkniifopfgeopaaGreatJZ3
import Derived.Test.YtkniifopfgeopaaGreatRows
import Derived.Test.YtkniifopfgeopaaGreatJZ4
import Derived.Deep.RegionHeld3
import Derived.Deep.CutBlock
import Derived.ArgAppend
import Derived.Deep.RegionLaw
import Derived.Deep.QuietTactic
import Derived.BigQuiet
namespace Go.Proofs.YtkniifopfgeopaaGreat
open Go.RowKit

theorem zeros_list (n : Nat) : (Builtin.zeroCells (Value.int IntKind.u8 0).cells n).toList = (List.replicate n (0 : Int)).map (Value.int .u8) := by
  simp [Builtin.zeroCells, Value.cells]
  apply List.ext_getElem
  · simp
  · intro j h1 h2
    simp [Nat.mod_one]

section
variable {P : Program} (w : World)
end
end Go.Proofs.YtkniifopfgeopaaGreat

namespace Go.Proofs.YtkniifopfgeopaaGreat
open Go.RowKit
set_option linter.unusedVariables false

section
variable {P : Program} (w : World)
theorem run_append_nilz (base : Nat) (t u ty e : TypeId) (i : TypeInfo) (ht : P.underlying t = some (.slice e)) (hu : P.underlying u = some (.int .i64)) (hi : P.info? e = some i) (hz : i.zero = some (.int .u8 0))
    (hsize : i.size = 1) (hby : i.bytes = 1) (n : Nat) (h0 : n ≠ 0) (hn : n ≤ 140737488355328) (hbase : base ≤ w.heap.size) :
    ∃ c w', (Builtin.append_ #[t, u] ty #[.slice none 0 0, .int .i64 n]).run P w = .ok (.slice (some ⟨w.heap.size, 0, none⟩) n c) w' ∧ Own w' base e (.slice (some ⟨w.heap.size, 0, none⟩) n c) (List.replicate n 0) ∧ w.grownBy w' none := by
  have hw : IntKind.i64.wrap (n : Int) = n := by rw [IntKind.wrap_i64]; omega
  have h1 : ¬ ((n : Int) < 0) := by omega
  have h2 : ¬ (281474976710656 < (n : Int)) := by omega
  have ha : ∀ (z : Int) (w' : World), (asInt (.int .i64 z)).run P w' = .ok z w' := fun z w' => by simp [asInt, asIntOf]
  have hw0 : IntKind.i64.wrap 0 = 0 := by decide
  have h63 : ¬ (9223372036854775807 < (n : Int)) := by omega
  have h48 : ¬ (281474976710656 < Builtin.nextslicecap n 0) := by
    have := nextslicecap_le (show 0 < n by omega)
    omega
  have hge := grownCap_ge w n 0 e
  have hcm' : grownCap w n 0 e ≤ maxLen := grownCap_le_maxLen w n 0 e (by unfold maxLen; omega)
  have hroom : ¬ n ≤ 0 := by omega
  refine ⟨grownCap w n 0 e, w.drew.alloc (.cells (((List.replicate n (0 : Int)).map (Value.int .u8)).toArray ++ Builtin.zeroCells (Value.int IntKind.u8 0).cells (grownCap w n 0 e - n)) e), ?_, ?_, ⟨rfl, rfl, rfl, by simp, fun k hk _ => heap_alloc_old w.drew _ hk⟩⟩
  · have hzl : Builtin.zeroCells (Value.int IntKind.u8 0).cells n = ((List.replicate n (0 : Int)).map (Value.int .u8)).toArray := by
      apply Array.ext'
      rw [zeros_list]
    simp [Builtin.append_, run_underlying ht, run_underlying hu, sizeOf, typeInfo, zeroValue, hz, hi, hsize, hby, ha, hw, h1, h2, h0, h63, h48, Question.forced, newRow, grownCap, hzl, Builtin.firstCells]
  · refine ⟨by simp, .inr ⟨w.heap.size, _, _, by simp, hbase, heap_alloc_new w.drew _, by simpa using hge, hcm', ?_, ?_⟩⟩
    · simp [size_zeroCells, Value.cells]
      omega
    · simp only [Array.toList_append, List.length_replicate, Nat.mul_one]
      exact List.take_left' (show (List.map (Value.int IntKind.u8) (List.replicate n (0 : Int))).length = n by rw [List.length_map, List.length_replicate])
theorem wpList_append_nilz {ops : Array Oper} {rest : List Oper} {o : Oper} {a : Act} {Q : Exit → Act → World → Prop} (hgd : o.guard = none) (s x : Operand) (t u : TypeId)
    (ho : o.op = .call { callee := .builtin .append, args := #[s, x], argTypes := #[t, u] })
    (base : Nat) (e : TypeId) (i : TypeInfo) (ht : P.underlying t = some (.slice e)) (hu : P.underlying u = some (.int .i64)) (hi : P.info? e = some i) (hz : i.zero = some (.int .u8 0))
    (hsize : i.size = 1) (hby : i.bytes = 1) (hs : a.eval s = .slice none 0 0) (z : Int) (n : Nat) (hx : a.eval x = .int .i64 z) (hzn : z = n)
    (h0 : n ≠ 0) (hn : n ≤ 140737488355328) (hbase : base ≤ w.heap.size)
    (h : ∀ c w', Own w' base e (.slice (some ⟨w.heap.size, 0, none⟩) n c) (List.replicate n 0) → w.grownBy w' none → wpList P ops Q rest (a.put o.dst (.slice (some ⟨w.heap.size, 0, none⟩) n c)) w') : wpList P ops Q (o :: rest) a w := by
  refine wpList_plain hgd fun K hK => ?_
  subst hzn
  obtain ⟨c, w', hr, h2, h3⟩ := run_append_nilz (P := P) w base t u o.type e i ht hu hi hz hsize hby n h0 hn hbase
  unfold Oper.wp execOp
  simp only [ho, resolve, invoke, builtin, Sem.run_bind, Sem.run_pure, Result.andThen_ok, List.map_toArray, List.map_cons, List.map_nil, hs, hx, hr]
  exact hK _ _ (h c w' h2 h3)
end

/-- A row that was cut to no element. -/
theorem Own.cut0 {w : World} {base : Nat} {e : TypeId} {g n c : Nat} {xs : List Int} (h : Own w base e (.slice (some ⟨g, 0, none⟩) n c) xs) : Own w base e (.slice (some ⟨g, 0, none⟩) 0 c) [] := by
  refine ⟨rfl, ?_⟩
  rcases h.2 with ⟨hv, _⟩ | ⟨g', cap, cur, hv, hbg, hg, hnc, hcm, hcs, htake⟩
  · simp at hv
  · simp at hv
    obtain ⟨rfl, _, rfl⟩ := hv
    exact Or.inr ⟨g, c, cur, rfl, hbg, hg, Nat.zero_le _, hcm, hcs, by simp⟩

set_option maxHeartbeats 400000 in
set_option maxRecDepth 100000 in
theorem grow_nil (n : Nat) (hn : n ≤ 140737488355328) (w : World) :
    Calls Tryz.prog 103 #[.slice none 0 0, .int .i64 n] w fun e w' => ∃ v, e = .returned v ∧ Own w' w.heap.size 5 v [] ∧ Below w.heap.size w w' := by
  obtain ⟨i0, hi0, hz0, hz1, hz2⟩ := info_parts Tryz.infoByte
  by_cases h0 : n = 0
  · subst h0
    go_enter Tryz.func103, Tryz.ntmps103
    go_wp2
    go_ret
    exact ⟨_, rfl, Own.nil _ _ _, Below.refl _ _⟩
  · have hpos : (n : Int) > 0 := by omega
    go_enter Tryz.func103, Tryz.ntmps103
    go_wp2_with (first
      | (at_builtin; go_loud (refine wpList_append_nilz _ rfl _ _ 22 3 rfl w.heap.size 5 i0 Tryz.underlying22 Tryz.underlying3 hi0 hz0 hz1 hz2 rfl _ n rfl (by first | rfl | go_num) h0 hn (Nat.le_refl _) ?_))
      | fail)
    intro c w1 hown hg
    have HO := hidden hown
    have hc := hown.2
    have hcap : n ≤ c := by
      rcases hown.2 with ⟨hv, _⟩ | ⟨g', cap, cur, hv, hbg, hg', hnc, hcm, hcs, htake⟩
      · simp at hv
      · simp at hv
        obtain ⟨rfl, rfl⟩ := hv
        simpa using hnc
    have HB := hidden ((Below.refl w.heap.size w).grown hg (Nat.le_refl _) (by simp))
    clear hown hg hc
    go_wp2
    go_ret
    exact ⟨_, rfl, HO.out.cut0, HB.out⟩

/-- A part: its slice value and its bytes. -/
structure Part where
  p : Option Addr
  n : Nat
  c : Nat
  xs : List Int
/-- The slice of slices holds the parts. -/
structure Parts (w : World) (q : Option Addr) (m d : Nat) (l : List Part) : Prop where
  len : l.length = m
  cap : m ≤ d
  big : d ≤ maxLen
  mem : 0 < m → ∃ g, q = some ⟨g, 0, none⟩ ∧ ∀ j (hj : j < l.length), w.cell? ⟨g, j, none⟩ = some (.slice l[j].p l[j].n l[j].c)
  byt : ∀ x ∈ l, Byt w x.p x.n x.c x.xs
def bytesOf (l : List Part) : List Int := l.flatMap Part.xs
def sizeOf' (l : List Part) : Nat := (l.map Part.n).sum
theorem Parts.below {w w' : World} {q : Option Addr} {m d : Nat} {l : List Part} (h : Parts w q m d l) (hb : Below w.heap.size w w') : Parts w' q m d l :=
  ⟨h.len, h.cap, h.big, fun h0 => by
    obtain ⟨g, e, hc⟩ := h.mem h0
    exact ⟨g, e, fun j hj => cell_below hb _ _ (hc j hj)⟩, fun x hx => (h.byt x hx).below hb⟩
theorem bytesOf_len' {w : World} {l : List Part} (hb : ∀ x ∈ l, Byt w x.p x.n x.c x.xs) : (bytesOf l).length = sizeOf' l := by
  induction l with
  | nil => rfl
  | cons x l ih =>
    have h1 := (hb x (by simp)).len
    have h2 := ih (fun y hy => hb y (by simp [hy]))
    simp only [bytesOf, sizeOf', List.flatMap_cons, List.length_append, List.map_cons, List.sum_cons] at h2 ⊢
    omega
theorem bytesOf_len {w : World} {q : Option Addr} {m d : Nat} {l : List Part} (h : Parts w q m d l) : (bytesOf l).length = sizeOf' l := bytesOf_len' h.byt
theorem bytesOf_rng {w : World} {q : Option Addr} {m d : Nat} {l : List Part} (h : Parts w q m d l) : ∀ z ∈ bytesOf l, 0 ≤ z ∧ z ≤ 255 := by
  intro z hz
  obtain ⟨x, hx, hzx⟩ := List.mem_flatMap.1 hz
  exact (h.byt x hx).rng z hzx
theorem sizeOf_take (l : List Part) (j : Nat) (hj : j < l.length) : sizeOf' (l.take (j + 1)) = sizeOf' (l.take j) + l[j].n := by
  unfold sizeOf'
  rw [List.take_succ_eq_append_getElem hj, List.map_append, List.sum_append]
  simp
theorem sizeOf_le (l : List Part) (j : Nat) : sizeOf' (l.take j) ≤ sizeOf' l := by
  unfold sizeOf'
  conv => rhs; rw [← List.take_append_drop j l]
  rw [List.map_append, List.sum_append]
  omega
theorem bytesOf_take (l : List Part) (j : Nat) (hj : j < l.length) : bytesOf (l.take (j + 1)) = bytesOf (l.take j) ++ l[j].xs := by
  unfold bytesOf
  rw [List.take_succ_eq_append_getElem hj, List.flatMap_append]
  simp

set_option maxHeartbeats 1600000 in
set_option maxRecDepth 100000 in
theorem concat_any (q : Option Addr) (m d : Nat) (l : List Part) (w : World) (h : Parts w q m d l) (hs : sizeOf' l ≤ 140737488355328) :
    Calls Tryz.prog 85 #[.slice q m d] w fun e w' => ∃ v, e = .returned v ∧ Own w' w.heap.size 5 v (bytesOf l) ∧ Below w.heap.size w w' := by
  obtain ⟨i0, hi0, hz0, hz1, hz2⟩ := info_parts Tryz.infoByte
  have H := hidden h
  have hm := h.cap
  have hbig := h.big
  unfold maxLen at hbig
  have HL := hidden h.len
  have HS := hidden (sizeOf_le l)
  clear h
  go_enter Tryz.func85, Tryz.ntmps85
  go_upto_region 3 with fail
  go_wp2_with fail
  go_loopw [3, 11] (fun z i wr => ∃ j : Nat, j ≤ m ∧ i = .int .i64 j ∧ z = .int .i64 (sizeOf' (l.take j) : Nat) ∧ wr = w) (fun _ i _ => m - (intOf i).toNat)
  case atStart => exact ⟨0, by omega, rfl, rfl, rfl⟩
  case round =>
    obtain ⟨j, hj, rfl, rfl, rfl⟩ := hrel
    by_cases hlt : j < m
    · have hlt' : (j : Int) < m := by omega
      have hjl : j < l.length := by rw [HL.out]; exact hlt
      obtain ⟨g, rfl, hc⟩ := H.out.mem (by omega)
      have c0 := hc j hjl
      have hst := sizeOf_take l j hjl
      have hsl := HS.out (j + 1)
      have hny := (H.out.byt _ (List.getElem_mem hjl)).len
      generalize l[j] = x at *
      obtain ⟨xp, xn, xc, xx⟩ := x
      simp only at c0 hst
      obtain ⟨S, hS⟩ : ∃ S, sizeOf' (l.take j) = S := ⟨_, rfl⟩
      obtain ⟨S', hS'⟩ : ∃ S, sizeOf' (l.take (j + 1)) = S := ⟨_, rfl⟩
      have HS' := hidden hS'
      rw [hS, hS'] at hst
      rw [hS'] at hsl
      rw [hS]
      have hw : IntKind.i64.wrap ((S : Int) + xn) = (S : Int) + xn := by rw [IntKind.wrap_i64]; omega
      have hnn : ¬ ((S : Int) + xn < 0) := by omega
      clear hc hny hS hS'
      go_wp2
      go_roundw
      case rel => exact ⟨j + 1, by omega, by go_num, by rw [HS'.out, hst]; simp, trivial⟩
      case measure => simp [intOf]; omega
    · obtain rfl : j = m := by omega
      rename World => w0
      have hst : sizeOf' (l.take j) = sizeOf' l := by rw [List.take_of_length_le (by rw [HL.out]; exact Nat.le_refl _)]
      rw [hst]
      go_upto_region 11 with (first
        | (go_at_call 103; (with_reducible refine (grow_nil (sizeOf' l) hs _).mono ?_); rintro e w1 ⟨v1, rfl, ho, hb⟩; have HO := hidden ho; have HB := hidden hb; clear ho hb)
        | fail)
      go_wp2_with fail
      go_loopw [6, 27] (fun v i wx => ∃ k : Nat, k ≤ j ∧ i = .int .i64 k ∧ Own wx w0.heap.size 5 v (bytesOf (l.take k)) ∧ Below w0.heap.size w0 wx) (fun _ i _ => j - (intOf i).toNat)
      case atStart => exact ⟨0, by omega, rfl, HO.out, HB.out⟩
      case round =>
        obtain ⟨k, hk, rfl, ho, hb⟩ := hrel
        have HO := hidden ho
        have HB := hidden hb
        by_cases hlt : k < j
        · have hlt' : (k : Int) < j := by omega
          have hkl : k < l.length := by rw [HL.out]; exact hlt
          obtain ⟨g, rfl, hc⟩ := (H.out.below hb).mem (by omega)
          have c0 := hc k hkl
          have hbt := bytesOf_take l k hkl
          have hst2 := sizeOf_take l k hkl
          have hsl := HS.out (k + 1)
          have HY := hidden ((H.out.byt _ (List.getElem_mem hkl)).below hb)
          have hlen : (bytesOf (l.take k)).length = sizeOf' (l.take k) := bytesOf_len' (w := w0) (fun x hx => H.out.byt x (List.mem_of_mem_take hx))
          generalize l[k] = x at *
          obtain ⟨xp, xn, xc, xx⟩ := x
          simp only at c0 hst2 hbt HY
          have HBT := hidden hbt
          have hroom : (bytesOf (l.take k)).length + xn ≤ 140737488355328 := by omega
          clear hc hbt hlen hst2 hsl ho hb
          go_wp2_with (first
            | (at_builtin; go_loud (refine wpList_append_byt _ rfl _ _ 22 rfl w0.heap.size 5 i0 (.int .u8 0) Tryz.underlying22 hi0 hz0 hz1 hz2 rfl _ _ rfl HO.out _ _ _ _ _ rfl HY.out rfl hroom HB.out.size ?_))
            | fail)
          intro v2 w2 ho2 hg2
          have HB2 := hidden (HB.out.grown hg2 HB.out.size (fun i hi => (HO.out.lt i hi).1))
          rw [← HBT.out] at ho2
          have HO2 := hidden ho2
          clear ho2 hg2 HO HB
          go_wp2
          go_roundw
          case rel => exact ⟨k + 1, by omega, by go_num, HO2.out, HB2.out⟩
          case measure => simp [intOf]; omega
        · obtain rfl : k = j := by omega
          have hbt : bytesOf (l.take k) = bytesOf l := by rw [List.take_of_length_le (by rw [HL.out]; exact Nat.le_refl _)]
          rw [hbt] at HO
          clear ho hb
          go_wp2
          go_ret
          exact ⟨_, rfl, HO.out, HB.out⟩
end Go.Proofs.YtkniifopfgeopaaGreat

namespace Go.Proofs.YtkniifopfgeopaaGreat
open Go.RowKit
set_option linter.unusedVariables false

/-- The slice reads as the bytes, and where there is one, it lies at block base or beyond. -/
structure Frs (w : World) (base : Nat) (p : Option Addr) (n c : Nat) (xs : List Int) : Prop where
  byt : Byt w p n c xs
  own : 0 < n → ∃ b o, p = some ⟨b, o, none⟩ ∧ base ≤ b
theorem Bod.frs {w : World} {base : Nat} {p : Option Addr} {n c : Nat} {xs : List Int} (h : Bod w base p n c xs) : Frs w base p n c xs :=
  ⟨h.byt, fun h0 => by
    obtain ⟨b, o, cur, fz, e, hb, -⟩ := h.own h0
    exact ⟨b, o, e, hb⟩⟩
theorem Own.frs {w : World} {base : Nat} {v : Value} {xs : List Int} {n : Nat} (h : Own w base 5 v xs) (hl : xs.length = n) (hr : ∀ x ∈ xs, 0 ≤ x ∧ x ≤ 255) : ∃ p c, v = .slice p n c ∧ Frs w base p n c xs := by
  obtain ⟨p, c, e, hb⟩ := h.bod hl hr
  exact ⟨p, c, e, hb.frs⟩
section
variable {w w' : World} {base : Nat} {p : Option Addr} {n c : Nat} {xs : List Int}
theorem Frs.mono {base' : Nat} (h : Frs w base p n c xs) (hb : base' ≤ base) : Frs w base' p n c xs :=
  ⟨h.byt, fun h0 => by
    obtain ⟨b, o, e, hb'⟩ := h.own h0
    exact ⟨b, o, e, by omega⟩⟩
theorem Frs.low {k : Nat} (h : Frs w base p n c xs) (hg : w.grownBy w' (some k)) (hk : k < base) : Frs w' base p n c xs := by
  rcases Nat.eq_zero_or_pos n with h0 | h0
  · have hx : xs = [] := List.eq_nil_of_length_eq_zero (h.byt.len.trans h0)
    subst h0 hx
    exact ⟨Byt.nil _ _ _ h.byt.big, fun h => by omega⟩
  · obtain ⟨b, o, rfl, hb⟩ := h.own h0
    refine ⟨⟨h.byt.len, h.byt.cap, h.byt.big, h.byt.rng, fun hn => ?_⟩, fun _ => ⟨b, o, rfl, hb⟩⟩
    obtain ⟨b', o', e, hc⟩ := h.byt.mem hn
    injection e with e
    injection e with e1 e2
    subst e1 e2
    exact ⟨b, o, rfl, fun i hi => hg.cell (hc i hi) (by simp; omega)⟩
theorem Frs.below (h : Frs w base p n c xs) (hb : Below w.heap.size w w') : Frs w' base p n c xs := ⟨h.byt.below hb, h.own⟩
theorem Frs.alloc (h : Frs w base p n c xs) (o : Obj) : Frs (w.alloc o) base p n c xs := ⟨h.byt.alloc o, h.own⟩
end
theorem Frs.nil (w : World) (base : Nat) (p : Option Addr) (c : Nat) (hc : c ≤ maxLen) : Frs w base p 0 c [] := ⟨Byt.nil _ _ _ hc, fun h => by omega⟩

section
variable {P : Program} (w : World)
theorem run_append_full (base : Nat) (t ty e : TypeId) (i : TypeInfo) (z : Value) (ht : P.underlying t = some (.slice e)) (hi : P.info? e = some i) (hz : i.zero = some z)
    (hsize : i.size = 1) (hby : i.bytes = 1) (hzs : z.cells.size = 1) (b off n : Nat) (xs : List Int) (hx : Byt w (some ⟨b, off, none⟩) n n xs) (hb : base ≤ b) (hn0 : 0 < n)
    (p : Option Addr) (m c : Nat) (ys : List Int) (hy : Byt w p m c ys) (hlim : n + m ≤ 140737488355328) (hbase : base ≤ w.heap.size) :
    ∃ q d w', (Builtin.append_ #[t, t] ty #[.slice (some ⟨b, off, none⟩) n n, .slice p m c]).run P w = .ok (.slice q (n + m) d) w' ∧ Frs w' base q (n + m) d (xs ++ ys) ∧ w.grownBy w' none := by
  have hl := hy.len
  have hsame : m = 0 → Frs w base (some ⟨b, off, none⟩) (n + m) n (xs ++ ys) := fun h0 => by
    subst h0
    obtain rfl : ys = [] := List.eq_nil_of_length_eq_zero hl
    rw [List.append_nil]
    exact ⟨hx, fun _ => ⟨b, off, rfl, hb⟩⟩
  cases p with
  | none =>
    have hm : m = 0 := by
      rcases Nat.eq_zero_or_pos m with h0 | h0
      · exact h0
      · obtain ⟨b, o, h, _⟩ := hy.at_ h0
        cases h
    refine ⟨some ⟨b, off, none⟩, n, w, ?_, hsame hm, World.grownBy.refl w _⟩
    subst hm
    simp [Builtin.append_, run_underlying ht, sizeOf, typeInfo, hi, Builtin.lenOf, Builtin.firstCells, storeCells]
  | some a =>
    rcases Nat.eq_zero_or_pos m with h0 | h0
    · refine ⟨some ⟨b, off, none⟩, n, w, ?_, hsame h0, World.grownBy.refl w _⟩
      subst h0
      have hrun := run_append_room_cells (P := P) w t ty e i ht hi b off n n a 0 c [] (by simp) (fun j u hj => by simp at hj) (fun u hu => by cases hu) (by omega) (fun j hj => by simp at hj) (fun j hj => by simp at hj)
      rw [hrun]
      rfl
    · obtain ⟨v', w', hrun, r1, r2⟩ := run_append_arg_grows (P := P) w t ty e i z 1 1 ht hi hz hsize hby hzs (by decide) ⟨b, off, none⟩ n n (xs.map (Value.int .u8)) (by simp [hx.len]) (fun j u hj => hx.src j u hj) a m c (ys.map (Value.int .u8)) (by simp [hl]) (fun j u hj => hy.src j u hj) (by omega) (by unfold maxLen; omega) (by omega)
      have hown : w'.ownsRow w.heap.size e 1 v' (n + m) ((xs ++ ys).map (Value.int .u8)) := by rw [List.map_append]; exact r1
      obtain ⟨q, d, rfl, hby2⟩ := Byt.of_own hown (rng_append hx.rng hy.rng)
      refine ⟨q, d, w', hrun, ⟨hby2, fun hp => ?_⟩, r2⟩
      rcases hown.2 with ⟨hv, hz0⟩ | ⟨g, cap, cur, hv, hg, _⟩
      · simp at hv; omega
      · simp at hv
        exact ⟨g, 0, hv.1, by omega⟩
theorem step_append_full {ops : Array Oper} {o : Oper} {a : Act} {K : Act → World → Prop} {Q : Exit → Act → World → Prop} {E : Prop} (hw : Region.wanted o (yielded ops a.tmps) = true) (s x : Operand) (t : TypeId)
    (ho : o.op = .call { callee := .builtin .append, args := #[s, x], argTypes := #[t, t] })
    (base : Nat) (e : TypeId) (i : TypeInfo) (z : Value) (ht : P.underlying t = some (.slice e)) (hi : P.info? e = some i) (hz : i.zero = some z)
    (hsize : i.size = 1) (hby : i.bytes = 1) (hzs : z.cells.size = 1) (b off n : Nat) (xs : List Int) (hs : a.eval s = .slice (some ⟨b, off, none⟩) n n) (hx : Byt w (some ⟨b, off, none⟩) n n xs) (hb : base ≤ b) (hn0 : 0 < n)
    (p : Option Addr) (m c : Nat) (ys : List Int) (hxv : a.eval x = .slice p m c) (hy : Byt w p m c ys) (hlim : n + m ≤ 140737488355328) (hbase : base ≤ w.heap.size)
    (h : ∀ q d w', Frs w' base q (n + m) d (xs ++ ys) → w.grownBy w' none → K (a.put o.dst (.slice q (n + m) d)) w') :
    if Region.wanted o (yielded ops a.tmps) = true then Oper.wp P o a w K Q else E := by
  rw [if_pos hw]
  obtain ⟨q, d, w', hr, h2, h3⟩ := run_append_full (P := P) w base t o.type e i z ht hi hz hsize hby hzs b off n xs hx hb hn0 p m c ys hy hlim hbase
  unfold Oper.wp execOp
  simp only [ho, resolve, invoke, builtin, Sem.run_bind, Sem.run_pure, Result.andThen_ok, List.map_toArray, List.map_cons, List.map_nil, hs, hxv, hr]
  exact h q d w' h2 h3
end

/-- Bytes that a function returns. -/
def GotF (w : World) (ys : List Int) (e : Ending) (w' : World) : Prop := ∃ q d, e = .returned (.slice q ys.length d) ∧ Frs w' w.heap.size q ys.length d ys ∧ Below w.heap.size w w'
theorem four_byt (w : World) (a b c d : Int) (T : TypeId) (ha : 0 ≤ a ∧ a ≤ 255) (hb : 0 ≤ b ∧ b ≤ 255) (hc : 0 ≤ c ∧ c ≤ 255) (hd : 0 ≤ d ∧ d ≤ 255) : Byt (w.alloc (.cells #[.int .u8 a, .int .u8 b, .int .u8 c, .int .u8 d] T)) (some ⟨w.heap.size, 0, none⟩) 4 4 [a, b, c, d] :=
  ⟨rfl, Nat.le_refl _, by decide, fun x hx => by simp at hx; rcases hx with rfl | rfl | rfl | rfl <;> assumption, fun _ => ⟨w.heap.size, 0, rfl, fun i hi => by
    have : i = 0 ∨ i = 1 ∨ i = 2 ∨ i = 3 := by simp at hi; omega
    rcases this with rfl | rfl | rfl | rfl <;> go_simp⟩⟩

set_option maxHeartbeats 800000 in
set_option maxRecDepth 100000 in
theorem before_any (a b c d : Int) (ha : 0 ≤ a ∧ a ≤ 255) (hb : 0 ≤ b ∧ b ≤ 255) (hc : 0 ≤ c ∧ c ≤ 255) (hd : 0 ≤ d ∧ d ≤ 255) (q : Option Addr) (m e : Nat) (l : List Part) (w : World) (h : Parts w q m e l) (hs : sizeOf' l ≤ 140737488355000) (L : List Int) (hL : [a, b, c, d] ++ bytesOf l = L) :
    Calls Tryz.prog 59 #[.agg #[.int .u8 a, .int .u8 b, .int .u8 c, .int .u8 d], .slice q m e] w (GotF w L) := by
  obtain ⟨i0, hi0, hz0, hz1, hz2⟩ := info_parts Tryz.infoByte
  have hl := bytesOf_len h
  have hr := bytesOf_rng h
  obtain ⟨X, hX⟩ : ∃ X, bytesOf l = X := ⟨_, rfl⟩
  have HC := hidden (fun wx (h : Parts wx q m e l) => concat_any q m e l wx h (by omega))
  rw [hX] at hl hr hL HC
  have hN : 4 + X.length = L.length := by rw [← hL]; simp; omega
  have HP := hidden ((h.below ((Below.refl _ w).alloc (Nat.le_refl _) (.cells #[.int .u8 a, .int .u8 b, .int .u8 c, .int .u8 d] 134))).below (w' := (w.alloc (.cells #[.int .u8 a, .int .u8 b, .int .u8 c, .int .u8 d] 134)).drew) (drew_below ⟨1, rfl⟩))
  have HB := hidden (((Below.refl w.heap.size w).alloc (Nat.le_refl _) (.cells #[.int .u8 a, .int .u8 b, .int .u8 c, .int .u8 d] 134)).trans (drew_below (B := w.heap.size) (w' := (w.alloc (.cells #[.int .u8 a, .int .u8 b, .int .u8 c, .int .u8 d] 134)).drew) ⟨1, rfl⟩))
  have HF := hidden ((four_byt w a b c d 134 ha hb hc hd).below (w' := (w.alloc (.cells #[.int .u8 a, .int .u8 b, .int .u8 c, .int .u8 d] 134)).drew) (drew_below ⟨1, rfl⟩))
  have HL := hidden hL
  have HR := hidden hr
  have hXb : X.length ≤ 140737488355000 := by omega
  have HN := hidden hN
  clear h hL hr hX hl hN
  go_enter Tryz.func59, Tryz.ntmps59
  go_wp2_with fail
  go_region_law (first
    | (go_simp; go_at_call 85; (with_reducible refine (HC.out _ HP.out).mono ?_); rintro e w1 ⟨v1, rfl, ho, hb1⟩; obtain ⟨p1, c1, rfl, hy⟩ := ho.byt HR.out; have HF1 := HF.out.below hb1; have HB1 := HB.out.trans (hb1.mono HB.out.size))
    | (refine step_append_full _ (by rfl) _ _ 22 (by rfl) w.heap.size 5 i0 (.int .u8 0) Tryz.underlying22 hi0 hz0 hz1 hz2 rfl w.heap.size 0 4 _ (by rfl) HF1 (Nat.le_refl _) (by omega) _ _ _ X (by rfl) hy (by omega) HB1.size ?_; intro q2 d2 w2 hf2 hg2))
  all_goals
    have hB2 := HB1.grown hg2 HB1.size (fun j hj => by cases hj)
    go_wp2
    go_ret
    rw [HL.out, HN.out] at hf2
    exact ⟨q2, d2, by rw [← HN.out]; rfl, hf2, hB2⟩
end Go.Proofs.YtkniifopfgeopaaGreat

namespace Go.Proofs.YtkniifopfgeopaaGreat
open Go.RowKit
set_option linter.unusedVariables false

/-- A header: its six numbers. -/
structure Hdr where
  i : Int
  r : Int
  n : Int
  x : Int
  f : Int
  m : Int

/-- The numbers fit into their types. -/
structure Hdr.Ok (h : Hdr) : Prop where
  i : 0 ≤ h.i ∧ h.i ≤ 18446744073709551615
  r : 0 ≤ h.r ∧ h.r ≤ 18446744073709551615
  n : -9223372036854775808 ≤ h.n ∧ h.n ≤ 9223372036854775807
  x : -9223372036854775808 ≤ h.x ∧ h.x ≤ 9223372036854775807
  f : -9223372036854775808 ≤ h.f ∧ h.f ≤ 9223372036854775807
  m : 0 ≤ h.m ∧ h.m ≤ 4294967295

/-- The fields are in range. -/
def rangeR (n x f : Int) : Bool := decide (34 ≤ x ∧ x ≤ 37 ∧ 0 ≤ n ∧ n ≤ 255) && (bits BinOp.andNot IntKind.i64 f 56 == 0)
/-- The first error of a header. -/
def checkR (i r n x f m : Int) : Int :=
  if i = 0 then 20 else if rangeR n x f = false then 5 else if x ≠ 34 ∧ r = 0 then 20 else if x = 34 ∧ m ≠ 0 then 7 else 0

theorem inRange_any (i r n x f m : Int) (w : World) :
    Calls Tryz.prog 29 #[.agg #[.int .u64 i, .int .u64 r, .int .i64 n, .int .i64 x, .int .i64 f, .int .u32 m]] w fun e w' => e = .returned (.bool (rangeR n x f)) ∧ Below w.heap.size w w' := by
  go_enter Tryz.func29, Tryz.ntmps29
  go_wp2
  all_goals go_ret
  all_goals exact ⟨by simp [rangeR]; try omega, (Below.refl _ _).alloc (Nat.le_refl _) _⟩

theorem check_at (i r n x f m z : Int) (w : World) (hz : checkR i r n x f m = z) :
    Calls Tryz.prog 15 #[.agg #[.int .u64 i, .int .u64 r, .int .i64 n, .int .i64 x, .int .i64 f, .int .u32 m]] w fun e w' => e = .returned (.int .i64 z) ∧ Below w.heap.size w w' := by
  have HZ := hidden hz
  clear hz
  rcases hg : rangeR n x f with _ | _
  · go_enter Tryz.func15, Tryz.ntmps15
    go_wp2_with (first | (go_at_call 29; refine (inRange_any _ _ _ _ _ _ _).mono ?_; rintro e w' ⟨rfl, hb⟩; have hb' := ((Below.refl w.heap.size w).alloc (Nat.le_refl _) _).trans (hb.mono (by simp)); clear hb))
    all_goals go_ret
    all_goals have HY := HZ.out
    all_goals first | exact ⟨by simp_all [checkR], hb'⟩ | exact ⟨by simp_all [checkR], (Below.refl _ _).alloc (Nat.le_refl _) _⟩
  · go_enter Tryz.func15, Tryz.ntmps15
    go_wp2_with (first | (go_at_call 29; refine (inRange_any _ _ _ _ _ _ _).mono ?_; rintro e w' ⟨rfl, hb⟩; have c1 : w'.cell? ⟨w.heap.size, 1, none⟩ = some (.int .u64 r) := (hb.cell (by simp)).trans (by go_simp); have c5 : w'.cell? ⟨w.heap.size, 5, none⟩ = some (.int .u32 m) := (hb.cell (by simp)).trans (by go_simp); have hb' := ((Below.refl w.heap.size w).alloc (Nat.le_refl _) _).trans (hb.mono (by simp)); clear hb))
    all_goals go_ret
    all_goals have HY := HZ.out
    all_goals first | exact ⟨by simp_all [checkR], hb'⟩ | exact ⟨by simp_all [checkR], (Below.refl _ _).alloc (Nat.le_refl _) _⟩
theorem hcheck_any (i r n x f m : Int) (w : World) :
    Calls Tryz.prog 15 #[.agg #[.int .u64 i, .int .u64 r, .int .i64 n, .int .i64 x, .int .i64 f, .int .u32 m]] w fun e w' => e = .returned (.int .i64 (checkR i r n x f m)) ∧ Below w.heap.size w w' := check_at _ _ _ _ _ _ _ w rfl

theorem request_any (i r n x f m : Int) (w : World) :
    Calls Tryz.prog 55 #[.agg #[.int .u64 i, .int .u64 r, .int .i64 n, .int .i64 x, .int .i64 f, .int .u32 m]] w fun e w' => e = .returned (.bool (bits BinOp.and IntKind.i64 f 32 == 0)) ∧ Below w.heap.size w w' := by
  go_enter Tryz.func55, Tryz.ntmps55
  go_wp2
  all_goals go_ret
  all_goals exact ⟨rfl, (Below.refl _ _).alloc (Nat.le_refl _) _⟩
end Go.Proofs.YtkniifopfgeopaaGreat

namespace Go.Proofs.YtkniifopfgeopaaGreat
open Go.RowKit
set_option linter.unusedVariables false

/-- The header lies at block g from cell o on. -/
structure HdrIn (w : World) (g o : Nat) (i r n x f m : Int) : Prop where
  c0 : w.cell? ⟨g, o, none⟩ = some (.int .u64 i)
  c1 : w.cell? ⟨g, o + 1, none⟩ = some (.int .u64 r)
  c2 : w.cell? ⟨g, o + 2, none⟩ = some (.int .i64 n)
  c3 : w.cell? ⟨g, o + 3, none⟩ = some (.int .i64 x)
  c4 : w.cell? ⟨g, o + 4, none⟩ = some (.int .i64 f)
  c5 : w.cell? ⟨g, o + 5, none⟩ = some (.int .u32 m)
  fr : ∀ j, w.frozen? ⟨g, j, none⟩ = false

theorem HdrIn.lt {w : World} {g o : Nat} {i r n x f m : Int} (h : HdrIn w g o i r n x f m) : g < w.heap.size := World.block_lt_of_cell? w _ h.c0
theorem HdrIn.grown {w w' : World} {g o : Nat} {i r n x f m : Int} {row : Option Nat} (h : HdrIn w g o i r n x f m) (hg : w.grownBy w' row) (hne : some g ≠ row) : HdrIn w' g o i r n x f m :=
  ⟨hg.cell h.c0 hne, hg.cell h.c1 hne, hg.cell h.c2 hne, hg.cell h.c3 hne, hg.cell h.c4 hne, hg.cell h.c5 hne, fun j => (World.frozen?_of_block (a := ⟨g, j, none⟩) (hg.block g h.lt hne)).trans (h.fr j)⟩
theorem HdrIn.below {w w' : World} {g o : Nat} {i r n x f m : Int} (h : HdrIn w g o i r n x f m) (hb : Below w.heap.size w w') : HdrIn w' g o i r n x f m := h.grown (row := none) (grown_of_below hb none) (by simp)
theorem HdrIn.alloc {w : World} {g o : Nat} {i r n x f m : Int} (h : HdrIn w g o i r n x f m) (b : Obj) : HdrIn (w.alloc b) g o i r n x f m := h.below ((Below.refl _ _).alloc (Nat.le_refl _) b)
theorem HdrIn.new (w : World) (i r n x f m : Int) (T : TypeId) : HdrIn (w.alloc (.cells #[.int .u64 i, .int .u64 r, .int .i64 n, .int .i64 x, .int .i64 f, .int .u32 m] T)) w.heap.size 0 i r n x f m :=
  ⟨by go_simp, by go_simp, by go_simp, by go_simp, by go_simp, by go_simp, fun j => by go_simp⟩

section
variable {w : World} {g : Nat} {i r n x f m : Int}
theorem HdrIn.set0 (h : HdrIn w g 0 i r n x f m) (z : Int) : HdrIn (w.setCell ⟨g, 0, none⟩ (.int .u64 z)) g 0 z r n x f m := by
  obtain ⟨c0, c1, c2, c3, c4, c5, fr⟩ := h
  exact ⟨by go_simp, by go_simp, by go_simp, by go_simp, by go_simp, by go_simp, fun j => by rw [World.frozen?_setCell]; exact fr j⟩
theorem HdrIn.set1 (h : HdrIn w g 0 i r n x f m) (z : Int) : HdrIn (w.setCell ⟨g, 1, none⟩ (.int .u64 z)) g 0 i z n x f m := by
  obtain ⟨c0, c1, c2, c3, c4, c5, fr⟩ := h
  exact ⟨by go_simp, by go_simp, by go_simp, by go_simp, by go_simp, by go_simp, fun j => by rw [World.frozen?_setCell]; exact fr j⟩
theorem HdrIn.set2 (h : HdrIn w g 0 i r n x f m) (z : Int) : HdrIn (w.setCell ⟨g, 2, none⟩ (.int .i64 z)) g 0 i r z x f m := by
  obtain ⟨c0, c1, c2, c3, c4, c5, fr⟩ := h
  exact ⟨by go_simp, by go_simp, by go_simp, by go_simp, by go_simp, by go_simp, fun j => by rw [World.frozen?_setCell]; exact fr j⟩
theorem HdrIn.set3 (h : HdrIn w g 0 i r n x f m) (z : Int) : HdrIn (w.setCell ⟨g, 3, none⟩ (.int .i64 z)) g 0 i r n z f m := by
  obtain ⟨c0, c1, c2, c3, c4, c5, fr⟩ := h
  exact ⟨by go_simp, by go_simp, by go_simp, by go_simp, by go_simp, by go_simp, fun j => by rw [World.frozen?_setCell]; exact fr j⟩
theorem HdrIn.set4 (h : HdrIn w g 0 i r n x f m) (z : Int) : HdrIn (w.setCell ⟨g, 4, none⟩ (.int .i64 z)) g 0 i r n x z m := by
  obtain ⟨c0, c1, c2, c3, c4, c5, fr⟩ := h
  exact ⟨by go_simp, by go_simp, by go_simp, by go_simp, by go_simp, by go_simp, fun j => by rw [World.frozen?_setCell]; exact fr j⟩
theorem HdrIn.set5 (h : HdrIn w g 0 i r n x f m) (z : Int) : HdrIn (w.setCell ⟨g, 5, none⟩ (.int .u32 z)) g 0 i r n x f z := by
  obtain ⟨c0, c1, c2, c3, c4, c5, fr⟩ := h
  exact ⟨by go_simp, by go_simp, by go_simp, by go_simp, by go_simp, by go_simp, fun j => by rw [World.frozen?_setCell]; exact fr j⟩
end

end Go.Proofs.YtkniifopfgeopaaGreat

namespace Go.Proofs.YtkniifopfgeopaaGreat
open Go.RowKit
set_option linter.unusedVariables false

theorem load_hdr {w : World} {g o : Nat} {i r n x f m : Int} (h : HdrIn w g o i r n x f m) : (loadVar 36 ⟨g, o, none⟩).run Tryz.prog w = .ok (.agg #[.int .u64 i, .int .u64 r, .int .i64 n, .int .i64 x, .int .i64 f, .int .u32 m]) w := by
  obtain ⟨c0, c1, c2, c3, c4, c5, fr⟩ := h
  simp [loadVar, go_sem, c0, c1, c2, c3, c4, c5, Result.andThen]
theorem ret_hdr {fn : Func} {R : Ending → World → Prop} {a : Act} {w : World} {p : Nat} {g : Nat} {i r n x f m : Int} (h : fn.results = #[.cell p 36]) (hp : a.tmps.getD p undef = .pointer (some ⟨g, 0, none⟩)) (hd : a.defers = [])
    (hh : HdrIn w g 0 i r n x f m) (hR : R (.returned (.agg #[.int .u64 i, .int .u64 r, .int .i64 n, .int .i64 x, .int .i64 f, .int .u32 m])) w) : bodyPost Tryz.prog fn R .ret a w := by
  refine bodyPost_ret (v := .agg #[.int .u64 i, .int .u64 r, .int .i64 n, .int .i64 x, .int .i64 f, .int .u32 m]) ?_ hd hR
  rw [Array.getD_eq_getD_getElem?] at hp
  simp [results, h, hp, asAddr, load_hdr hh]
theorem ret_hdr2 {fn : Func} {R : Ending → World → Prop} {a : Act} {w : World} {p u : Nat} {g : Nat} {i r n x f m : Int} {v : Value} (h : fn.results = #[.cell p 36, .tmp u]) (hp : a.tmps.getD p undef = .pointer (some ⟨g, 0, none⟩)) (hu : a.tmps.getD u undef = v) (hd : a.defers = [])
    (hh : HdrIn w g 0 i r n x f m) (hR : R (.returned (.tuple #[.agg #[.int .u64 i, .int .u64 r, .int .i64 n, .int .i64 x, .int .i64 f, .int .u32 m], v])) w) : bodyPost Tryz.prog fn R .ret a w := by
  refine bodyPost_ret (v := .tuple #[.agg #[.int .u64 i, .int .u64 r, .int .i64 n, .int .i64 x, .int .i64 f, .int .u32 m], v]) ?_ hd hR
  rw [results_cell_tmp h]
  simp only [hp]
  simp [Result.andThen, hu, asAddr, load_hdr hh]
end Go.Proofs.YtkniifopfgeopaaGreat

namespace Go.Proofs.YtkniifopfgeopaaGreat
open Go.RowKit
set_option linter.unusedVariables false

set_option maxHeartbeats 400000 in
theorem word_any (W w : World) (k : Nat) (h : Cod W w k) :
    Calls Tryz.prog 31 #[.pointer (some ⟨k, 0, none⟩)] w fun e w' => ∃ r : Int, e = .returned (.int .u64 r) ∧ 0 ≤ r ∧ r ≤ 18446744073709551615 ∧ Cod W w' k ∧ w.grownBy w' (some k) := by
  have H := hidden h
  clear h
  go_enter Tryz.func31, Tryz.ntmps31
  go_wp2_with (go_at_call 18; refine (next_any W _ k H.out _ ?_).mono ?_; omega)
  rintro e w1 ⟨r, rfl, r0, r1, hc, hg⟩
  have HC := hidden hc
  have HG := hidden hg
  clear hc hg H
  by_cases h0 : r = 0
  · subst h0
    go_wp2_with (go_at_call 18; refine (next_any W _ k HC.out _ ?_).mono ?_; omega; rintro e w2 ⟨r2, rfl, r3, r4, hc2, hg2⟩; have HC2 := hidden hc2; have HG2 := hidden (grown_trans HG.out hg2); clear hc2 hg2)
    go_ret
    exact ⟨r2, rfl, r3, by omega, HC2.out, HG2.out⟩
  by_cases h1 : r = 1
  · subst h1
    go_wp2_with (go_at_call 18; refine (next_any W _ k HC.out _ ?_).mono ?_; omega; rintro e w2 ⟨r2, rfl, r3, r4, hc2, hg2⟩; have HC2 := hidden hc2; have HG2 := hidden (grown_trans HG.out hg2); clear hc2 hg2)
    go_ret
    exact ⟨18446744073709551615 - r2, rfl, by omega, by omega, HC2.out, HG2.out⟩
  have e0 : (r == 0) = false := by simpa using h0
  have e1 : (r == 1) = false := by simpa using h1
  go_wp2
  go_loopw [3, 4] (fun v i wr => ∃ j : Nat, j ≤ 8 ∧ i = .int .i64 j ∧ ∃ z : Int, v = .int .u64 z ∧ 0 ≤ z ∧ z ≤ 18446744073709551615 ∧ Cod W wr k ∧ w.grownBy wr (some k)) (fun _ i _ => 8 - (intOf i).toNat)
  case atStart => exact ⟨0, by omega, rfl, 0, rfl, by omega, by omega, HC.out, HG.out⟩
  case round =>
    obtain ⟨j, hj, rfl, z, rfl, z0, z1, hc, hg⟩ := hrel
    have HC1 := hidden hc
    have HG1 := hidden hg
    clear hc hg HC HG
    by_cases hlt : j < 8
    · go_wp2_with (go_at_call 18; refine (next_any W _ k HC1.out _ ?_).mono ?_; omega; rintro e w2 ⟨r2, rfl, r3, r4, hc2, hg2⟩; have HC2 := hidden hc2; have HG2 := hidden (grown_trans HG1.out hg2); clear hc2 hg2)
      go_roundw
      case rel => exact ⟨j + 1, by omega, by go_num, _, rfl, bits_lo_u64 _ _ _, bits_hi_u64 _ _ _, HC2.out, HG2.out⟩
      case measure => simp [intOf]; omega
    · obtain rfl : j = 8 := by omega
      go_wp2
      go_ret
      exact ⟨z, rfl, z0, z1, HC1.out, HG1.out⟩
end Go.Proofs.YtkniifopfgeopaaGreat

namespace Go.Proofs.YtkniifopfgeopaaGreat
open Go.RowKit
set_option linter.unusedVariables false

/-- The cursor at block k: its bytes, its place, its error. -/
structure Cur (w : World) (k : Nat) (p : Option Addr) (n c : Nat) (a e : Int) : Prop where
  c0 : w.cell? ⟨k, 0, none⟩ = some (.slice p n c)
  c1 : w.cell? ⟨k, 1, none⟩ = some (.int .i64 a)
  c2 : w.cell? ⟨k, 2, none⟩ = some (.int .i64 e)
  fr : ∀ j, w.frozen? ⟨k, j, none⟩ = false

theorem Cur.lt {w : World} {k : Nat} {p : Option Addr} {n c : Nat} {a e : Int} (h : Cur w k p n c a e) : k < w.heap.size := World.block_lt_of_cell? w _ h.c0
theorem Cur.grown {w w' : World} {k : Nat} {p : Option Addr} {n c : Nat} {a e : Int} {row : Option Nat} (h : Cur w k p n c a e) (hg : w.grownBy w' row) (hne : some k ≠ row) : Cur w' k p n c a e :=
  ⟨hg.cell h.c0 hne, hg.cell h.c1 hne, hg.cell h.c2 hne, fun j => (World.frozen?_of_block (a := ⟨k, j, none⟩) (hg.block k h.lt hne)).trans (h.fr j)⟩
theorem Cur.below {w w' : World} {k : Nat} {p : Option Addr} {n c : Nat} {a e : Int} (h : Cur w k p n c a e) (hb : Below w.heap.size w w') : Cur w' k p n c a e := h.grown (row := none) (grown_of_below hb none) (by simp)
theorem Cur.alloc {w : World} {k : Nat} {p : Option Addr} {n c : Nat} {a e : Int} (h : Cur w k p n c a e) (o : Obj) : Cur (w.alloc o) k p n c a e := h.below ((Below.refl _ _).alloc (Nat.le_refl _) o)
theorem Cur.set_ne {w : World} {k : Nat} {p : Option Addr} {n c : Nat} {a e : Int} (h : Cur w k p n c a e) (g j : Nat) (v : Value) (hne : k ≠ g) : Cur (w.setCell ⟨g, j, none⟩ v) k p n c a e := h.grown (grown_set w g j v) (by simp; exact hne)

theorem Cur.step {w : World} {k : Nat} {p : Option Addr} {n c : Nat} {a e : Int} (h : Cur w k p n c a e) (z : Int) : Cur (w.setCell ⟨k, 1, none⟩ (.int .i64 z)) k p n c z e := by
  obtain ⟨c0, c1, c2, fr⟩ := h
  exact ⟨by go_simp, by go_simp, by go_simp, fun j => by rw [World.frozen?_setCell]; exact fr j⟩
theorem Cur.fail {w : World} {k : Nat} {p : Option Addr} {n c : Nat} {a e : Int} (h : Cur w k p n c a e) (z : Int) : Cur (w.setCell ⟨k, 2, none⟩ (.int .i64 z)) k p n c a z := by
  obtain ⟨c0, c1, c2, fr⟩ := h
  exact ⟨by go_simp, by go_simp, by go_simp, fun j => by rw [World.frozen?_setCell]; exact fr j⟩
set_option maxHeartbeats 400000 in
theorem field_yes (p : Option Addr) (n c : Nat) (xs : List Int) (w : World) (k a d : Nat) (hc : Cur w k p n c a 0) (h : Byt w p n c xs) (h1 : 1 ≤ d) (h8 : d ≤ 8) (hin : a + d ≤ n) :
    Calls Tryz.prog 36 #[.pointer (some ⟨k, 0, none⟩), .int .i64 d] w fun e w' => e = .returned (.int .u64 (val ((xs.drop a).take d))) ∧ Cur w' k p n c ((a + d : Nat) : Int) 0 ∧ w.grownBy w' (some k) := by
  have hle := h.le
  have E1 := hidden (fun m => (number_yes p n c xs (w.drewN m) (h.below (drew_below ⟨m, rfl⟩)) a d h1 h8 hin).mono (R' := fun e w' => e = .returned (.tuple #[.int .u64 (val ((xs.drop a).take d)), .bool true]) ∧ w' = w.drewN m) (fun e w' ⟨x, y⟩ => ⟨x, y.symm⟩))
  have HC := hidden hc
  obtain ⟨c0, c1, c2, fr⟩ := hc
  clear h
  generalize val ((xs.drop a).take d) = v at E1
  go_enter Tryz.func36, Tryz.ntmps36
  go_wp2
  go_quiet ((go_at_call 51; (with_reducible exact Calls.quiet_of_same (E1.out _))))
  go_wp2
  go_ret
  refine ⟨rfl, ?_, grown_trans (grown_drewN _ _ _) (grown_set _ k 1 _)⟩
  have := (HC.out.below (drew_below (B := w.heap.size) ⟨nq, rfl⟩)).step ((a : Int) + d)
  exact this

/-- A cursor that has stopped, or that has read S bytes. -/
def CurPart (w : World) (k : Nat) (p : Option Addr) (n c S : Nat) : Prop := ∃ a e, Cur w k p n c a e ∧ ((e = 0 ∧ a = S ∧ S ≤ n) ∨ e = 1)
theorem CurPart.grown {w w' : World} {k : Nat} {p : Option Addr} {n c S : Nat} {row : Option Nat} (h : CurPart w k p n c S) (hg : w.grownBy w' row) (hne : some k ≠ row) : CurPart w' k p n c S := by
  obtain ⟨a, e, hc, h⟩ := h
  exact ⟨a, e, hc.grown hg hne, h⟩
theorem CurPart.set_ne {w : World} {k : Nat} {p : Option Addr} {n c S : Nat} (h : CurPart w k p n c S) (g j : Nat) (v : Value) (hne : k ≠ g) : CurPart (w.setCell ⟨g, j, none⟩ v) k p n c S := h.grown (grown_set w g j v) (by simp; exact hne)

set_option maxHeartbeats 400000 in
theorem field_some (p : Option Addr) (n c : Nat) (xs : List Int) (w : World) (k S d N : Nat) (hp : CurPart w k p n c S) (h : Byt w p n c xs) (h1 : 1 ≤ d) (h8 : d ≤ 8) (hN : S + d = N) (M : Int) (hM : (256 : Int) ^ d ≤ M + 1) (hM0 : 0 ≤ M) :
    Calls Tryz.prog 36 #[.pointer (some ⟨k, 0, none⟩), .int .i64 d] w fun e w' => ∃ z : Int, e = .returned (.int .u64 z) ∧ 0 ≤ z ∧ z ≤ M ∧ CurPart w' k p n c N ∧ w.grownBy w' (some k) := by
  subst hN
  obtain ⟨a, e, hc, he⟩ := hp
  rcases he with ⟨rfl, rfl, hS⟩ | rfl
  · by_cases hin : S + d ≤ n
    · refine (field_yes p n c xs w k S d hc h h1 h8 hin).mono ?_
      rintro e w' ⟨rfl, hc', hg⟩
      have hb := val_bd ((xs.drop S).take d) (rng_take (rng_drop h.rng _) _)
      have hlen : ((xs.drop S).take d).length = d := by have := h.len; simp; omega
      rw [hlen] at hb
      exact ⟨_, rfl, hb.1, by omega, ⟨_, _, hc', Or.inl ⟨rfl, rfl, hin⟩⟩, hg⟩
    · have hle := h.le
      have hlen := h.len
      have hnum : numR xs S d = (0, false) := by rw [numR, if_neg (by omega)]
      have E1 := hidden (fun m => (number_any p n c xs (w.drewN m) (h.below (drew_below ⟨m, rfl⟩)) S d (by omega) (by omega)).mono (R' := fun e w' => e = .returned (.tuple #[.int .u64 0, .bool false]) ∧ w' = w.drewN m) (fun e w' ⟨x, y⟩ => ⟨by rw [x, hnum], y.symm⟩))
      have HC := hidden hc
      obtain ⟨c0, c1, c2, fr⟩ := hc
      clear h hnum
      go_enter Tryz.func36, Tryz.ntmps36
      go_wp2
      go_quiet ((go_at_call 51; (with_reducible exact Calls.quiet_of_same (E1.out _))))
      go_wp2
      go_ret
      refine ⟨0, rfl, by omega, by omega, ⟨(S : Int), 1, ?_, Or.inr rfl⟩, grown_trans (grown_drewN _ _ _) (grown_set _ k 2 _)⟩
      have := (HC.out.below (drew_below (B := w.heap.size) ⟨nq, rfl⟩)).fail 1
      exact this
  · have HC := hidden hc
    obtain ⟨c0, c1, c2, fr⟩ := hc
    clear h
    go_enter Tryz.func36, Tryz.ntmps36
    go_wp2
    go_ret
    exact ⟨0, rfl, by omega, by omega, ⟨_, 1, HC.out, Or.inr rfl⟩, grown_refl _ _⟩
end Go.Proofs.YtkniifopfgeopaaGreat

namespace Go.Proofs.YtkniifopfgeopaaGreat
open Go.RowKit
set_option linter.unusedVariables false

end Go.Proofs.YtkniifopfgeopaaGreat
