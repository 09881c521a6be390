/-
  append(b, make([]byte, n)...) on a row of the call's own that is not empty: n zeros more.
  slices.Grow of nil, slices.Concat of some slices of bytes.
  Bytes that lie beyond a place; what the fixed part and some parts behind it make.
  What package payload's fixed part reads: its numbers, and a body split into the fixed part and the rest.
  An equation that no walk looks into.
  The lengths of SPIs and the first errors of notifications and deletions, as package payload tells them.
  What package proposal's Check of one proposal, and of all, returns.
-/
import Derived.Test.YtnbkffehhahckaaGreatJZ1
import Derived.Test.YtnbkffehhahckaaGreatJZ0
import Derived.Test.YtnbkffehhahckaaGreatJZ3
import Derived.Test.YtnbkffehhahckaaGreatRows
import Derived.Test.YtnbkffehhahckaaGreatJZ4
import Derived.Deep.RegionHeld3
import Derived.Deep.CutBlock
import Derived.ArgAppend
import Derived.Deep.RegionLaw
import Derived.Laws.CopyOwn
namespace Go.Proofs.YtnbkffehhahckaaGreat
open Go.RowKit
theorem zeros_list (n : Nat) : (Builtin.zeroCells (Value.int IntKind.u8 0).cells n).toList = (List.replicate n (0 : Int)).map (Value.int .u8) := by
  simp [Builtin.zeroCells, Value.cells]
  apply List.ext_getElem
  · simp
  · intro j h1 h2
    simp [Nat.mod_one]
section
variable {P : Program} (w : World)
end
end Go.Proofs.YtnbkffehhahckaaGreat

namespace Go.Proofs.YtnbkffehhahckaaGreat
open Go.RowKit
set_option linter.unusedVariables false
section
variable {P : Program} (w : World)
theorem run_append_nilz (base : Nat) (t u ty e : TypeId) (i : TypeInfo) (ht : P.underlying t = some (.slice e)) (hu : P.underlying u = some (.int .i64)) (hi : P.info? e = some i) (hz : i.zero = some (.int .u8 0))
    (hsize : i.size = 1) (hby : i.bytes = 1) (n : Nat) (h0 : n ≠ 0) (hn : n ≤ 140737488355328) (hbase : base ≤ w.heap.size) :
    ∃ c w', (Builtin.append_ #[t, u] ty #[.slice none 0 0, .int .i64 n]).run P w = .ok (.slice (some ⟨w.heap.size, 0, none⟩) n c) w' ∧ Own w' base e (.slice (some ⟨w.heap.size, 0, none⟩) n c) (List.replicate n 0) ∧ w.grownBy w' none := by
  have hw : IntKind.i64.wrap (n : Int) = n := by rw [IntKind.wrap_i64]; omega
  have h1 : ¬ ((n : Int) < 0) := by omega
  have h2 : ¬ (281474976710656 < (n : Int)) := by omega
  have ha : ∀ (z : Int) (w' : World), (asInt (.int .i64 z)).run P w' = .ok z w' := fun z w' => by simp [asInt, asIntOf]
  have hw0 : IntKind.i64.wrap 0 = 0 := by decide
  have h63 : ¬ (9223372036854775807 < (n : Int)) := by omega
  have h48 : ¬ (281474976710656 < Builtin.nextslicecap n 0) := by
    have := nextslicecap_le (show 0 < n by omega)
    omega
  have hge := grownCap_ge w n 0 e
  have hcm' : grownCap w n 0 e ≤ maxLen := grownCap_le_maxLen w n 0 e (by unfold maxLen; omega)
  have hroom : ¬ n ≤ 0 := by omega
  refine ⟨grownCap w n 0 e, w.drew.alloc (.cells (((List.replicate n (0 : Int)).map (Value.int .u8)).toArray ++ Builtin.zeroCells (Value.int IntKind.u8 0).cells (grownCap w n 0 e - n)) e), ?_, ?_, ⟨rfl, rfl, rfl, by simp, fun k hk _ => heap_alloc_old w.drew _ hk⟩⟩
  · have hzl : Builtin.zeroCells (Value.int IntKind.u8 0).cells n = ((List.replicate n (0 : Int)).map (Value.int .u8)).toArray := by
      apply Array.ext'
      rw [zeros_list]
    simp [Builtin.append_, run_underlying ht, run_underlying hu, sizeOf, typeInfo, zeroValue, hz, hi, hsize, hby, ha, hw, h1, h2, h0, h63, h48, Question.forced, newRow, grownCap, hzl, Builtin.firstCells]
  · refine ⟨by simp, .inr ⟨w.heap.size, _, _, by simp, hbase, heap_alloc_new w.drew _, by simpa using hge, hcm', ?_, ?_⟩⟩
    · simp [size_zeroCells, Value.cells]
      omega
    · simp only [Array.toList_append, List.length_replicate, Nat.mul_one]
      exact List.take_left' (show (List.map (Value.int IntKind.u8) (List.replicate n (0 : Int))).length = n by rw [List.length_map, List.length_replicate])
theorem wpList_append_nilz {ops : Array Oper} {rest : List Oper} {o : Oper} {a : Act} {Q : Exit → Act → World → Prop} (hgd : o.guard = none) (s x : Operand) (t u : TypeId)
    (ho : o.op = .call { callee := .builtin .append, args := #[s, x], argTypes := #[t, u] })
    (base : Nat) (e : TypeId) (i : TypeInfo) (ht : P.underlying t = some (.slice e)) (hu : P.underlying u = some (.int .i64)) (hi : P.info? e = some i) (hz : i.zero = some (.int .u8 0))
    (hsize : i.size = 1) (hby : i.bytes = 1) (hs : a.eval s = .slice none 0 0) (z : Int) (n : Nat) (hx : a.eval x = .int .i64 z) (hzn : z = n)
    (h0 : n ≠ 0) (hn : n ≤ 140737488355328) (hbase : base ≤ w.heap.size)
    (h : ∀ c w', Own w' base e (.slice (some ⟨w.heap.size, 0, none⟩) n c) (List.replicate n 0) → w.grownBy w' none → wpList P ops Q rest (a.put o.dst (.slice (some ⟨w.heap.size, 0, none⟩) n c)) w') : wpList P ops Q (o :: rest) a w := by
  refine wpList_plain hgd fun K hK => ?_
  subst hzn
  obtain ⟨c, w', hr, h2, h3⟩ := run_append_nilz (P := P) w base t u o.type e i ht hu hi hz hsize hby n h0 hn hbase
  unfold Oper.wp execOp
  simp only [ho, resolve, invoke, builtin, Sem.run_bind, Sem.run_pure, Result.andThen_ok, List.map_toArray, List.map_cons, List.map_nil, hs, hx, hr]
  exact hK _ _ (h c w' h2 h3)
end
theorem Own.cut0 {w : World} {base : Nat} {e : TypeId} {g n c : Nat} {xs : List Int} (h : Own w base e (.slice (some ⟨g, 0, none⟩) n c) xs) : Own w base e (.slice (some ⟨g, 0, none⟩) 0 c) [] := by
  refine ⟨rfl, ?_⟩
  rcases h.2 with ⟨hv, _⟩ | ⟨g', cap, cur, hv, hbg, hg, hnc, hcm, hcs, htake⟩
  · simp at hv
  · simp at hv
    obtain ⟨rfl, _, rfl⟩ := hv
    exact Or.inr ⟨g, c, cur, rfl, hbg, hg, Nat.zero_le _, hcm, hcs, by simp⟩
set_option maxHeartbeats 400000 in
set_option maxRecDepth 100000 in
theorem grow_nil (n : Nat) (hn : n ≤ 140737488355328) (w : World) :
    Calls Tryz.prog 109 #[.slice none 0 0, .int .i64 n] w fun e w' => ∃ v, e = .returned v ∧ Own w' w.heap.size 5 v [] ∧ Below w.heap.size w w' := by
  obtain ⟨i0, hi0, hz0, hz1, hz2⟩ := info_parts Tryz.infoByte
  by_cases h0 : n = 0
  · subst h0
    go_enter Tryz.func109, Tryz.ntmps109
    go_wp2
    go_ret
    exact ⟨_, rfl, Own.nil _ _ _, Below.refl _ _⟩
  · have hpos : (n : Int) > 0 := by omega
    go_enter Tryz.func109, Tryz.ntmps109
    go_wp2_with (first
      | (at_builtin; go_loud (refine wpList_append_nilz _ rfl _ _ 22 3 rfl w.heap.size 5 i0 Tryz.underlying22 Tryz.underlying3 hi0 hz0 hz1 hz2 rfl _ n rfl (by first | rfl | go_num) h0 hn (Nat.le_refl _) ?_))
      | fail)
    intro c w1 hown hg
    have HO := hidden hown
    have hc := hown.2
    have hcap : n ≤ c := by
      rcases hown.2 with ⟨hv, _⟩ | ⟨g', cap, cur, hv, hbg, hg', hnc, hcm, hcs, htake⟩
      · simp at hv
      · simp at hv
        obtain ⟨rfl, rfl⟩ := hv
        simpa using hnc
    have HB := hidden ((Below.refl w.heap.size w).grown hg (Nat.le_refl _) (by simp))
    clear hown hg hc
    go_wp2
    go_ret
    exact ⟨_, rfl, HO.out.cut0, HB.out⟩
structure Part where
  p : Option Addr
  n : Nat
  c : Nat
  xs : List Int
structure Parts (w : World) (q : Option Addr) (m d : Nat) (l : List Part) : Prop where
  len : l.length = m
  cap : m ≤ d
  big : d ≤ maxLen
  mem : 0 < m → ∃ g, q = some ⟨g, 0, none⟩ ∧ ∀ j (hj : j < l.length), w.cell? ⟨g, j, none⟩ = some (.slice l[j].p l[j].n l[j].c)
  byt : ∀ x ∈ l, Byt w x.p x.n x.c x.xs
def bytesOf (l : List Part) : List Int := l.flatMap Part.xs
def sizeOf' (l : List Part) : Nat := (l.map Part.n).sum
theorem Parts.below {w w' : World} {q : Option Addr} {m d : Nat} {l : List Part} (h : Parts w q m d l) (hb : Below w.heap.size w w') : Parts w' q m d l :=
  ⟨h.len, h.cap, h.big, fun h0 => by
    obtain ⟨g, e, hc⟩ := h.mem h0
    exact ⟨g, e, fun j hj => cell_below hb _ _ (hc j hj)⟩, fun x hx => (h.byt x hx).below hb⟩
theorem bytesOf_len' {w : World} {l : List Part} (hb : ∀ x ∈ l, Byt w x.p x.n x.c x.xs) : (bytesOf l).length = sizeOf' l := by
  induction l with
  | nil => rfl
  | cons x l ih =>
    have h1 := (hb x (by simp)).len
    have h2 := ih (fun y hy => hb y (by simp [hy]))
    simp only [bytesOf, sizeOf', List.flatMap_cons, List.length_append, List.map_cons, List.sum_cons] at h2 ⊢
    omega
theorem bytesOf_len {w : World} {q : Option Addr} {m d : Nat} {l : List Part} (h : Parts w q m d l) : (bytesOf l).length = sizeOf' l := bytesOf_len' h.byt
theorem bytesOf_rng {w : World} {q : Option Addr} {m d : Nat} {l : List Part} (h : Parts w q m d l) : ∀ z ∈ bytesOf l, 0 ≤ z ∧ z ≤ 255 := by
  intro z hz
  obtain ⟨x, hx, hzx⟩ := List.mem_flatMap.1 hz
  exact (h.byt x hx).rng z hzx
theorem sizeOf_take (l : List Part) (j : Nat) (hj : j < l.length) : sizeOf' (l.take (j + 1)) = sizeOf' (l.take j) + l[j].n := by
  unfold sizeOf'
  rw [List.take_succ_eq_append_getElem hj, List.map_append, List.sum_append]
  simp
theorem sizeOf_le (l : List Part) (j : Nat) : sizeOf' (l.take j) ≤ sizeOf' l := by
  unfold sizeOf'
  conv => rhs; rw [← List.take_append_drop j l]
  rw [List.map_append, List.sum_append]
  omega
theorem bytesOf_take (l : List Part) (j : Nat) (hj : j < l.length) : bytesOf (l.take (j + 1)) = bytesOf (l.take j) ++ l[j].xs := by
  unfold bytesOf
  rw [List.take_succ_eq_append_getElem hj, List.flatMap_append]
  simp
set_option maxHeartbeats 1600000 in
set_option maxRecDepth 100000 in
theorem concat_any (q : Option Addr) (m d : Nat) (l : List Part) (w : World) (h : Parts w q m d l) (hs : sizeOf' l ≤ 140737488355328) :
    Calls Tryz.prog 92 #[.slice q m d] w fun e w' => ∃ v, e = .returned v ∧ Own w' w.heap.size 5 v (bytesOf l) ∧ Below w.heap.size w w' := by
  obtain ⟨i0, hi0, hz0, hz1, hz2⟩ := info_parts Tryz.infoByte
  have H := hidden h
  have hm := h.cap
  have hbig := h.big
  unfold maxLen at hbig
  have HL := hidden h.len
  have HS := hidden (sizeOf_le l)
  clear h
  go_enter Tryz.func92, Tryz.ntmps92
  go_upto_region 3 with fail
  go_wp2_with fail
  go_loopw [3, 11] (fun z i wr => ∃ j : Nat, j ≤ m ∧ i = .int .i64 j ∧ z = .int .i64 (sizeOf' (l.take j) : Nat) ∧ wr = w) (fun _ i _ => m - (intOf i).toNat)
  case atStart => exact ⟨0, by omega, rfl, rfl, rfl⟩
  case round =>
    obtain ⟨j, hj, rfl, rfl, rfl⟩ := hrel
    by_cases hlt : j < m
    · have hlt' : (j : Int) < m := by omega
      have hjl : j < l.length := by rw [HL.out]; exact hlt
      obtain ⟨g, rfl, hc⟩ := H.out.mem (by omega)
      have c0 := hc j hjl
      have hst := sizeOf_take l j hjl
      have hsl := HS.out (j + 1)
      have hny := (H.out.byt _ (List.getElem_mem hjl)).len
      generalize l[j] = x at *
      obtain ⟨xp, xn, xc, xx⟩ := x
      simp only at c0 hst
      obtain ⟨S, hS⟩ : ∃ S, sizeOf' (l.take j) = S := ⟨_, rfl⟩
      obtain ⟨S', hS'⟩ : ∃ S, sizeOf' (l.take (j + 1)) = S := ⟨_, rfl⟩
      have HS' := hidden hS'
      rw [hS, hS'] at hst
      rw [hS'] at hsl
      rw [hS]
      have hw : IntKind.i64.wrap ((S : Int) + xn) = (S : Int) + xn := by rw [IntKind.wrap_i64]; omega
      have hnn : ¬ ((S : Int) + xn < 0) := by omega
      clear hc hny hS hS'
      go_wp2
      go_roundw
      case rel => exact ⟨j + 1, by omega, by go_num, by rw [HS'.out, hst]; simp, trivial⟩
      case measure => simp [intOf]; omega
    · obtain rfl : j = m := by omega
      rename World => w0
      have hst : sizeOf' (l.take j) = sizeOf' l := by rw [List.take_of_length_le (by rw [HL.out]; exact Nat.le_refl _)]
      rw [hst]
      go_upto_region 11 with (first
        | (go_at_call 109; (with_reducible refine (grow_nil (sizeOf' l) hs _).mono ?_); rintro e w1 ⟨v1, rfl, ho, hb⟩; have HO := hidden ho; have HB := hidden hb; clear ho hb)
        | fail)
      go_wp2_with fail
      go_loopw [6, 27] (fun v i wx => ∃ k : Nat, k ≤ j ∧ i = .int .i64 k ∧ Own wx w0.heap.size 5 v (bytesOf (l.take k)) ∧ Below w0.heap.size w0 wx) (fun _ i _ => j - (intOf i).toNat)
      case atStart => exact ⟨0, by omega, rfl, HO.out, HB.out⟩
      case round =>
        obtain ⟨k, hk, rfl, ho, hb⟩ := hrel
        have HO := hidden ho
        have HB := hidden hb
        by_cases hlt : k < j
        · have hlt' : (k : Int) < j := by omega
          have hkl : k < l.length := by rw [HL.out]; exact hlt
          obtain ⟨g, rfl, hc⟩ := (H.out.below hb).mem (by omega)
          have c0 := hc k hkl
          have hbt := bytesOf_take l k hkl
          have hst2 := sizeOf_take l k hkl
          have hsl := HS.out (k + 1)
          have HY := hidden ((H.out.byt _ (List.getElem_mem hkl)).below hb)
          have hlen : (bytesOf (l.take k)).length = sizeOf' (l.take k) := bytesOf_len' (w := w0) (fun x hx => H.out.byt x (List.mem_of_mem_take hx))
          generalize l[k] = x at *
          obtain ⟨xp, xn, xc, xx⟩ := x
          simp only at c0 hst2 hbt HY
          have HBT := hidden hbt
          have hroom : (bytesOf (l.take k)).length + xn ≤ 140737488355328 := by omega
          clear hc hbt hlen hst2 hsl ho hb
          go_wp2_with (first
            | (at_builtin; go_loud (refine wpList_append_byt _ rfl _ _ 22 rfl w0.heap.size 5 i0 (.int .u8 0) Tryz.underlying22 hi0 hz0 hz1 hz2 rfl _ _ rfl HO.out _ _ _ _ _ rfl HY.out rfl hroom HB.out.size ?_))
            | fail)
          intro v2 w2 ho2 hg2
          have HB2 := hidden (HB.out.grown hg2 HB.out.size (fun i hi => (HO.out.lt i hi).1))
          rw [← HBT.out] at ho2
          have HO2 := hidden ho2
          clear ho2 hg2 HO HB
          go_wp2
          go_roundw
          case rel => exact ⟨k + 1, by omega, by go_num, HO2.out, HB2.out⟩
          case measure => simp [intOf]; omega
        · obtain rfl : k = j := by omega
          have hbt : bytesOf (l.take k) = bytesOf l := by rw [List.take_of_length_le (by rw [HL.out]; exact Nat.le_refl _)]
          rw [hbt] at HO
          clear ho hb
          go_wp2
          go_ret
          exact ⟨_, rfl, HO.out, HB.out⟩
end Go.Proofs.YtnbkffehhahckaaGreat

namespace Go.Proofs.YtnbkffehhahckaaGreat
open Go.RowKit
set_option linter.unusedVariables false
structure Frs (w : World) (base : Nat) (p : Option Addr) (n c : Nat) (xs : List Int) : Prop where
  byt : Byt w p n c xs
  own : 0 < n → ∃ b o, p = some ⟨b, o, none⟩ ∧ base ≤ b
theorem Bod.frs {w : World} {base : Nat} {p : Option Addr} {n c : Nat} {xs : List Int} (h : Bod w base p n c xs) : Frs w base p n c xs :=
  ⟨h.byt, fun h0 => by
    obtain ⟨b, o, cur, fz, e, hb, -⟩ := h.own h0
    exact ⟨b, o, e, hb⟩⟩
theorem Own.frs {w : World} {base : Nat} {v : Value} {xs : List Int} {n : Nat} (h : Own w base 5 v xs) (hl : xs.length = n) (hr : ∀ x ∈ xs, 0 ≤ x ∧ x ≤ 255) : ∃ p c, v = .slice p n c ∧ Frs w base p n c xs := by
  obtain ⟨p, c, e, hb⟩ := h.bod hl hr
  exact ⟨p, c, e, hb.frs⟩
section
variable {w w' : World} {base : Nat} {p : Option Addr} {n c : Nat} {xs : List Int}
theorem Frs.mono {base' : Nat} (h : Frs w base p n c xs) (hb : base' ≤ base) : Frs w base' p n c xs :=
  ⟨h.byt, fun h0 => by
    obtain ⟨b, o, e, hb'⟩ := h.own h0
    exact ⟨b, o, e, by omega⟩⟩
theorem Frs.low {k : Nat} (h : Frs w base p n c xs) (hg : w.grownBy w' (some k)) (hk : k < base) : Frs w' base p n c xs := by
  rcases Nat.eq_zero_or_pos n with h0 | h0
  · have hx : xs = [] := List.eq_nil_of_length_eq_zero (h.byt.len.trans h0)
    subst h0 hx
    exact ⟨Byt.nil _ _ _ h.byt.big, fun h => by omega⟩
  · obtain ⟨b, o, rfl, hb⟩ := h.own h0
    refine ⟨⟨h.byt.len, h.byt.cap, h.byt.big, h.byt.rng, fun hn => ?_⟩, fun _ => ⟨b, o, rfl, hb⟩⟩
    obtain ⟨b', o', e, hc⟩ := h.byt.mem hn
    injection e with e
    injection e with e1 e2
    subst e1 e2
    exact ⟨b, o, rfl, fun i hi => hg.cell (hc i hi) (by simp; omega)⟩
theorem Frs.below (h : Frs w base p n c xs) (hb : Below w.heap.size w w') : Frs w' base p n c xs := ⟨h.byt.below hb, h.own⟩
theorem Frs.alloc (h : Frs w base p n c xs) (o : Obj) : Frs (w.alloc o) base p n c xs := ⟨h.byt.alloc o, h.own⟩
end
theorem Frs.nil (w : World) (base : Nat) (p : Option Addr) (c : Nat) (hc : c ≤ maxLen) : Frs w base p 0 c [] := ⟨Byt.nil _ _ _ hc, fun h => by omega⟩
section
variable {P : Program} (w : World)
theorem run_append_full (base : Nat) (t ty e : TypeId) (i : TypeInfo) (z : Value) (ht : P.underlying t = some (.slice e)) (hi : P.info? e = some i) (hz : i.zero = some z)
    (hsize : i.size = 1) (hby : i.bytes = 1) (hzs : z.cells.size = 1) (b off n : Nat) (xs : List Int) (hx : Byt w (some ⟨b, off, none⟩) n n xs) (hb : base ≤ b) (hn0 : 0 < n)
    (p : Option Addr) (m c : Nat) (ys : List Int) (hy : Byt w p m c ys) (hlim : n + m ≤ 140737488355328) (hbase : base ≤ w.heap.size) :
    ∃ q d w', (Builtin.append_ #[t, t] ty #[.slice (some ⟨b, off, none⟩) n n, .slice p m c]).run P w = .ok (.slice q (n + m) d) w' ∧ Frs w' base q (n + m) d (xs ++ ys) ∧ w.grownBy w' none := by
  have hl := hy.len
  have hsame : m = 0 → Frs w base (some ⟨b, off, none⟩) (n + m) n (xs ++ ys) := fun h0 => by
    subst h0
    obtain rfl : ys = [] := List.eq_nil_of_length_eq_zero hl
    rw [List.append_nil]
    exact ⟨hx, fun _ => ⟨b, off, rfl, hb⟩⟩
  cases p with
  | none =>
    have hm : m = 0 := by
      rcases Nat.eq_zero_or_pos m with h0 | h0
      · exact h0
      · obtain ⟨b, o, h, _⟩ := hy.at_ h0
        cases h
    refine ⟨some ⟨b, off, none⟩, n, w, ?_, hsame hm, World.grownBy.refl w _⟩
    subst hm
    simp [Builtin.append_, run_underlying ht, sizeOf, typeInfo, hi, Builtin.lenOf, Builtin.firstCells, storeCells]
  | some a =>
    rcases Nat.eq_zero_or_pos m with h0 | h0
    · refine ⟨some ⟨b, off, none⟩, n, w, ?_, hsame h0, World.grownBy.refl w _⟩
      subst h0
      have hrun := run_append_room_cells (P := P) w t ty e i ht hi b off n n a 0 c [] (by simp) (fun j u hj => by simp at hj) (fun u hu => by cases hu) (by omega) (fun j hj => by simp at hj) (fun j hj => by simp at hj)
      rw [hrun]
      rfl
    · obtain ⟨v', w', hrun, r1, r2⟩ := run_append_arg_grows (P := P) w t ty e i z 1 1 ht hi hz hsize hby hzs (by decide) ⟨b, off, none⟩ n n (xs.map (Value.int .u8)) (by simp [hx.len]) (fun j u hj => hx.src j u hj) a m c (ys.map (Value.int .u8)) (by simp [hl]) (fun j u hj => hy.src j u hj) (by omega) (by unfold maxLen; omega) (by omega)
      have hown : w'.ownsRow w.heap.size e 1 v' (n + m) ((xs ++ ys).map (Value.int .u8)) := by rw [List.map_append]; exact r1
      obtain ⟨q, d, rfl, hby2⟩ := Byt.of_own hown (rng_append hx.rng hy.rng)
      refine ⟨q, d, w', hrun, ⟨hby2, fun hp => ?_⟩, r2⟩
      rcases hown.2 with ⟨hv, hz0⟩ | ⟨g, cap, cur, hv, hg, _⟩
      · simp at hv; omega
      · simp at hv
        exact ⟨g, 0, hv.1, by omega⟩
theorem step_append_full {ops : Array Oper} {o : Oper} {a : Act} {K : Act → World → Prop} {Q : Exit → Act → World → Prop} {E : Prop} (hw : Region.wanted o (yielded ops a.tmps) = true) (s x : Operand) (t : TypeId)
    (ho : o.op = .call { callee := .builtin .append, args := #[s, x], argTypes := #[t, t] })
    (base : Nat) (e : TypeId) (i : TypeInfo) (z : Value) (ht : P.underlying t = some (.slice e)) (hi : P.info? e = some i) (hz : i.zero = some z)
    (hsize : i.size = 1) (hby : i.bytes = 1) (hzs : z.cells.size = 1) (b off n : Nat) (xs : List Int) (hs : a.eval s = .slice (some ⟨b, off, none⟩) n n) (hx : Byt w (some ⟨b, off, none⟩) n n xs) (hb : base ≤ b) (hn0 : 0 < n)
    (p : Option Addr) (m c : Nat) (ys : List Int) (hxv : a.eval x = .slice p m c) (hy : Byt w p m c ys) (hlim : n + m ≤ 140737488355328) (hbase : base ≤ w.heap.size)
    (h : ∀ q d w', Frs w' base q (n + m) d (xs ++ ys) → w.grownBy w' none → K (a.put o.dst (.slice q (n + m) d)) w') :
    if Region.wanted o (yielded ops a.tmps) = true then Oper.wp P o a w K Q else E := by
  rw [if_pos hw]
  obtain ⟨q, d, w', hr, h2, h3⟩ := run_append_full (P := P) w base t o.type e i z ht hi hz hsize hby hzs b off n xs hx hb hn0 p m c ys hy hlim hbase
  unfold Oper.wp execOp
  simp only [ho, resolve, invoke, builtin, Sem.run_bind, Sem.run_pure, Result.andThen_ok, List.map_toArray, List.map_cons, List.map_nil, hs, hxv, hr]
  exact h q d w' h2 h3
end
def GotF (w : World) (ys : List Int) (e : Ending) (w' : World) : Prop := ∃ q d, e = .returned (.slice q ys.length d) ∧ Frs w' w.heap.size q ys.length d ys ∧ Below w.heap.size w w'
theorem four_byt (w : World) (a b c d : Int) (T : TypeId) (ha : 0 ≤ a ∧ a ≤ 255) (hb : 0 ≤ b ∧ b ≤ 255) (hc : 0 ≤ c ∧ c ≤ 255) (hd : 0 ≤ d ∧ d ≤ 255) : Byt (w.alloc (.cells #[.int .u8 a, .int .u8 b, .int .u8 c, .int .u8 d] T)) (some ⟨w.heap.size, 0, none⟩) 4 4 [a, b, c, d] :=
  ⟨rfl, Nat.le_refl _, by decide, fun x hx => by simp at hx; rcases hx with rfl | rfl | rfl | rfl <;> assumption, fun _ => ⟨w.heap.size, 0, rfl, fun i hi => by
    have : i = 0 ∨ i = 1 ∨ i = 2 ∨ i = 3 := by simp at hi; omega
    rcases this with rfl | rfl | rfl | rfl <;> go_simp⟩⟩
set_option maxHeartbeats 800000 in
set_option maxRecDepth 100000 in
theorem before_any (a b c d : Int) (ha : 0 ≤ a ∧ a ≤ 255) (hb : 0 ≤ b ∧ b ≤ 255) (hc : 0 ≤ c ∧ c ≤ 255) (hd : 0 ≤ d ∧ d ≤ 255) (q : Option Addr) (m e : Nat) (l : List Part) (w : World) (h : Parts w q m e l) (hs : sizeOf' l ≤ 140737488355000) (L : List Int) (hL : [a, b, c, d] ++ bytesOf l = L) :
    Calls Tryz.prog 63 #[.agg #[.int .u8 a, .int .u8 b, .int .u8 c, .int .u8 d], .slice q m e] w (GotF w L) := by
  obtain ⟨i0, hi0, hz0, hz1, hz2⟩ := info_parts Tryz.infoByte
  have hl := bytesOf_len h
  have hr := bytesOf_rng h
  obtain ⟨X, hX⟩ : ∃ X, bytesOf l = X := ⟨_, rfl⟩
  have HC := hidden (fun wx (h : Parts wx q m e l) => concat_any q m e l wx h (by omega))
  rw [hX] at hl hr hL HC
  have hN : 4 + X.length = L.length := by rw [← hL]; simp; omega
  have HP := hidden ((h.below ((Below.refl _ w).alloc (Nat.le_refl _) (.cells #[.int .u8 a, .int .u8 b, .int .u8 c, .int .u8 d] 141))).below (w' := (w.alloc (.cells #[.int .u8 a, .int .u8 b, .int .u8 c, .int .u8 d] 141)).drew) (drew_below ⟨1, rfl⟩))
  have HB := hidden (((Below.refl w.heap.size w).alloc (Nat.le_refl _) (.cells #[.int .u8 a, .int .u8 b, .int .u8 c, .int .u8 d] 141)).trans (drew_below (B := w.heap.size) (w' := (w.alloc (.cells #[.int .u8 a, .int .u8 b, .int .u8 c, .int .u8 d] 141)).drew) ⟨1, rfl⟩))
  have HF := hidden ((four_byt w a b c d 141 ha hb hc hd).below (w' := (w.alloc (.cells #[.int .u8 a, .int .u8 b, .int .u8 c, .int .u8 d] 141)).drew) (drew_below ⟨1, rfl⟩))
  have HL := hidden hL
  have HR := hidden hr
  have hXb : X.length ≤ 140737488355000 := by omega
  have HN := hidden hN
  clear h hL hr hX hl hN
  go_enter Tryz.func63, Tryz.ntmps63
  go_wp2_with fail
  go_region_law (first
    | (go_simp; go_at_call 92; (with_reducible refine (HC.out _ HP.out).mono ?_); rintro e w1 ⟨v1, rfl, ho, hb1⟩; obtain ⟨p1, c1, rfl, hy⟩ := ho.byt HR.out; have HF1 := HF.out.below hb1; have HB1 := HB.out.trans (hb1.mono HB.out.size))
    | (refine step_append_full _ (by rfl) _ _ 22 (by rfl) w.heap.size 5 i0 (.int .u8 0) Tryz.underlying22 hi0 hz0 hz1 hz2 rfl w.heap.size 0 4 _ (by rfl) HF1 (Nat.le_refl _) (by omega) _ _ _ X (by rfl) hy (by omega) HB1.size ?_; intro q2 d2 w2 hf2 hg2))
  all_goals
    have hB2 := HB1.grown hg2 HB1.size (fun j hj => by cases hj)
    go_wp2
    go_ret
    rw [HL.out, HN.out] at hf2
    exact ⟨q2, d2, by rw [← HN.out]; rfl, hf2, hB2⟩
end Go.Proofs.YtnbkffehhahckaaGreat

namespace Go.Proofs.YtnbkffehhahckaaGreat
open Go.RowKit
set_option linter.unusedVariables false
set_option maxHeartbeats 400000 in
theorem cloneB_any (p : Option Addr) (n c : Nat) (xs : List Int) (w : World) (h : Byt w p n c xs) (hb : n ≤ 140737488355328) :
    Calls Tryz.prog 103 #[.slice p n c] w fun e w' => ∃ v, e = .returned v ∧ Own w' w.heap.size 5 v xs ∧ Below w.heap.size w w' := by
  have hl := h.len
  have q := fun (w : World) (a : Option Addr) (n c n' c' : Nat) => Lib.run_eql_slice_nil (P := Tryz.prog) w 131 _ a n c n' c' Tryz.underlying131
  cases p with
  | none =>
    have hn : n = 0 := by
      rcases Nat.eq_zero_or_pos n with h0 | h0
      · exact h0
      · obtain ⟨b, o, h, _⟩ := h.at_ h0
        cases h
    subst hn
    obtain rfl : xs = [] := List.eq_nil_of_length_eq_zero hl
    clear h hl
    go_enter Tryz.func103, Tryz.ntmps103
    go_wp2
    go_ret
    exact ⟨_, rfl, Own.nil _ _ _, Below.refl _ _⟩
  | some a =>
    obtain ⟨i0, hi, hz0, hz1, hz2⟩ := info_parts Tryz.infoByte
    have H := hidden h
    clear h
    go_enter Tryz.func103, Tryz.ntmps103
    go_wp2_with (at_builtin; refine wpList_append_byt _ rfl _ _ 131 rfl w.heap.size 5 i0 (.int .u8 0) Tryz.underlying131 hi hz0 hz1 hz2 rfl _ _ rfl (Own.made w w.heap.size 5 (Nat.le_refl _)) _ _ _ _ _ rfl (H.out.alloc _) rfl ?c1 ?c2 ?_)
    case c1 => simp; omega
    case c2 => simp
    intro v w1 hown hg
    go_wp2
    go_ret
    exact ⟨v, rfl, hown, ((Below.refl _ w).alloc (Nat.le_refl _) _).grown hg (by simp) (by intro k hk; simp [Value.ownBlock] at hk; omega)⟩
set_option maxHeartbeats 400000 in
theorem fnumber_any (a b c d : Int) (ha : 0 ≤ a ∧ a ≤ 255) (hb : 0 ≤ b ∧ b ≤ 255) (hc : 0 ≤ c ∧ c ≤ 255) (hd : 0 ≤ d ∧ d ≤ 255) (A K : Nat) (AI KI : Int) (hA : AI = A) (hK : KI = K) (h1 : 1 ≤ K) (hin : A + K ≤ 4) (V : Int) (hV : val (([a, b, c, d].drop A).take K) = V) (w : World) :
    Calls Tryz.prog 102 #[.agg #[.int .u8 a, .int .u8 b, .int .u8 c, .int .u8 d],   .int .i64 AI, .int .i64 KI] w fun e w' => e = .returned (.int .i64 V) ∧ Below w.heap.size w w' := by
  subst hA hK
  have hF := four_byt w a b c d 141 ha hb hc hd
  have HN := hidden (number_yes _ 4 4 _ _ hF A K h1 (by omega) hin)
  rw [hV] at HN
  have HB := hidden ((Below.refl w.heap.size w).alloc (Nat.le_refl _) (.cells #[.int .u8 a, .int .u8 b, .int .u8 c, .int .u8 d] 141))
  have hbd := val_bd (([a, b, c, d].drop A).take K) (rng_take (rng_drop hF.rng _) _)
  have hlen : (([a, b, c, d].drop A).take K).length ≤ 4 := by simp; omega
  have h8 := pow256_le hlen
  have e4 : (256 : Int) ^ 4 = 4294967296 := by decide
  rw [e4] at h8
  rw [hV] at hbd
  have hw : IntKind.i64.wrap V = V := by rw [IntKind.wrap_i64]; omega
  clear hF hbd h8 hV hlen e4
  go_enter Tryz.func102, Tryz.ntmps102
  go_wp2_with (first
    | (go_at_call 54; (with_reducible refine (HN.out).mono ?_); rintro e w' ⟨rfl, rfl⟩)
    | fail)
  go_ret
  exact ⟨rfl, HB.out⟩
def nthB (xs : List Int) (j : Nat) : Int := xs.getD j 0
def Split4 (w : World) (xs : List Int) (n : Nat) (e : Ending) (w' : World) : Prop :=
  Below w.heap.size w w' ∧ ((n < 4 ∧ e = .returned (.tuple #[.agg #[.int .u8 0, .int .u8 0, .int .u8 0, .int .u8 0], .slice none 0 0, .int .i64 1])) ∨
    (4 ≤ n ∧ ∃ q d, e = .returned (.tuple #[.agg #[.int .u8 (nthB xs 0), .int .u8 (nthB xs 1), .int .u8 (nthB xs 2), .int .u8 (nthB xs 3)], .slice q (n - 4) d, .int .i64 0]) ∧ Frs w' w.heap.size q (n - 4) d (xs.drop 4)))
theorem ret_f4 {fn : Func} {R : Ending → World → Prop} {act : Act} {w : World} {p s t : Nat} {g : Nat} {a b c d : Int} {u v : Value} (h : fn.results = #[.cell p 141, .tmp s, .tmp t]) (hp : act.tmps.getD p undef = .pointer (some ⟨g, 0, none⟩)) (hs : act.tmps.getD s undef = u) (ht : act.tmps.getD t undef = v) (hd : act.defers = [])
    (c0 : w.cell? ⟨g, 0, none⟩ = some (.int .u8 a)) (c1 : w.cell? ⟨g, 1, none⟩ = some (.int .u8 b)) (c2 : w.cell? ⟨g, 2, none⟩ = some (.int .u8 c)) (c3 : w.cell? ⟨g, 3, none⟩ = some (.int .u8 d))
    (hR : R (.returned (.tuple #[.agg #[.int .u8 a, .int .u8 b, .int .u8 c, .int .u8 d], u, v])) w) : bodyPost Tryz.prog fn R .ret act w := by
  refine bodyPost_ret (v := .tuple #[.agg #[.int .u8 a, .int .u8 b, .int .u8 c, .int .u8 d], u, v]) ?_ hd hR
  rw [Array.getD_eq_getD_getElem?] at hp hs ht
  have hl : (loadVar 141 ⟨g, 0, none⟩).run Tryz.prog w = .ok (.agg #[.int .u8 a, .int .u8 b, .int .u8 c, .int .u8 d]) w := by simp [loadVar, go_sem, c0, c1, c2, c3, Result.andThen]
  simp [results, h, hp, hs, ht, asAddr, hl]
theorem wpList_copy4 {P : Program} {w : World} {ops : Array Oper} {rest : List Oper} {o : Oper} {a : Act} {Q : Exit → Act → World → Prop} (hgd : o.guard = none) (d s : Operand) (dT sT : TypeId)
    (ho : o.op = .call { callee := .builtin .copy, args := #[d, s], argTypes := #[dT, sT] }) (elem : TypeId) (hu : P.underlying dT = some (.slice elem)) (hsz : (P.info? elem).map (·.size) = some 1)
    (g : Nat) (hd : a.eval d = .slice (some ⟨g, 0, none⟩) 4 4) (y0 y1 y2 y3 : Int) (t : TypeId) (hg : w.heap[g]? = some (.cells #[.int .u8 y0, .int .u8 y1, .int .u8 y2, .int .u8 y3] t (0, 0)))
    (p : Option Addr) (n c : Nat) (xs : List Int) (hs : a.eval s = .slice p n c) (hx : Byt w p n c xs) (N : Nat) (hN : Nat.min n 4 = N)
    (h : ∀ w', w.grownBy w' (some g) → (4 ≤ n → ∀ j, j < 4 → w'.cell? ⟨g, j, none⟩ = some (.int .u8 (nthB xs j))) → (∀ j, w'.frozen? ⟨g, j, none⟩ = false) → wpList P ops Q rest (a.put o.dst (goInt N)) w') : wpList P ops Q (o :: rest) a w := by
  have hl := hx.len
  have hfz : ∀ (w' : World) (cs : Array Value), w'.heap[g]? = some (.cells cs t (0, 0)) → ∀ j, w'.frozen? ⟨g, j, none⟩ = false := fun w' cs hh j => by
    simp [World.frozen?, hh]
  rcases Nat.eq_zero_or_pos n with h0 | h0
  · subst h0
    obtain rfl : N = 0 := by rw [← hN]; simp
    refine wpList_copy_nothing hgd d s dT sT ho elem hu hsz _ _ _ _ _ _ hd hs (by simp) (h w (grown_refl w _) (fun h => by omega) (hfz w _ hg))
  · obtain ⟨b, off, rfl, hc⟩ := hx.at_ h0
    have hcl : ((xs.take 4).map (Value.int .u8)).length = Nat.min n 4 := by rw [List.length_map, List.length_take, hl]; exact Nat.min_comm 4 n
    refine wpList_copy_own hgd d s dT sT ho elem hu hsz g 0 4 4 ⟨b, off, none⟩ n c hd hs _ t hg ((xs.take 4).map (Value.int .u8)) hcl (fun j v hj => ?_) (by have := Nat.min_le_right n 4; rw [hcl]; simpa using this) (u8_one _) ?_
    · have hj4 : j < 4 ∧ j < n := by
        have := (List.getElem?_eq_some_iff.1 hj).1
        rw [hcl] at this
        exact ⟨Nat.lt_of_lt_of_le this (Nat.min_le_right n 4), Nat.lt_of_lt_of_le this (Nat.min_le_left n 4)⟩
      rw [WideShapes.add_plain, hc j hj4.2]
      rw [List.getElem?_map, List.getElem?_take_of_lt hj4.1, List.getElem?_eq_getElem (by omega)] at hj
      rw [List.getD_eq_getElem?_getD, List.getElem?_eq_getElem (by omega)]
      simpa using hj
    · rw [hcl, hN]
      obtain ⟨cs, hcs⟩ : ∃ cs, (#[Value.int IntKind.u8 y0, .int .u8 y1, .int .u8 y2, .int .u8 y3].toList.take 0 ++ ((xs.take 4).map (Value.int .u8) ++ #[Value.int IntKind.u8 y0, .int .u8 y1, .int .u8 y2, .int .u8 y3].toList.drop (0 + N))).toArray = cs := ⟨_, rfl⟩
      rw [hcs]
      have hh : (w.setRow g cs).heap[g]? = some (.cells cs t (0, 0)) := setRow_heap w g _ cs t _ hg
      refine h _ ⟨rfl, rfl, rfl, by simp, fun k hk hne => setRow_other w g k _ (fun e => hne (by rw [e]))⟩ (fun h4 j hj => ?_) (hfz _ _ hh)
      have hN4 : N = 4 := by rw [← hN]; exact Nat.min_eq_right h4
      subst hN4
      have e1 : cs[j]? = some (.int .u8 (nthB xs j)) := by
        unfold nthB
        rw [← hcs]
        simp only [List.take_zero, List.nil_append, List.getElem?_toArray]
        rw [List.getElem?_append_left (by rw [hcl, hN]; exact hj), List.getElem?_map, List.getElem?_take_of_lt hj, List.getD_eq_getElem?_getD, List.getElem?_eq_getElem (by omega)]
        rfl
      simp [World.cell?, hh, e1]
set_option maxHeartbeats 800000 in
set_option maxRecDepth 100000 in
theorem split_any (p : Option Addr) (n c : Nat) (xs : List Int) (w : World) (h : Byt w p n c xs) (hb : n ≤ 140737488355328) :
    Calls Tryz.prog 101 #[.slice p n c] w (Split4 w xs n) := by
  have H := hidden h
  have hn := h.le
  obtain ⟨N, hN⟩ : ∃ N, Nat.min n 4 = N := ⟨_, rfl⟩
  have HY := hidden ((h.alloc (.cells #[.int .u8 0, .int .u8 0, .int .u8 0, .int .u8 0] 141)).alloc (.cells #[.int .u8 0, .int .u8 0, .int .u8 0, .int .u8 0] 141))
  have HB := hidden (((Below.refl w.heap.size w).alloc (Nat.le_refl _) (.cells #[.int .u8 0, .int .u8 0, .int .u8 0, .int .u8 0] 141)).alloc (by simp) (.cells #[.int .u8 0, .int .u8 0, .int .u8 0, .int .u8 0] 141))
  clear h
  go_enter Tryz.func101, Tryz.ntmps101
  go_wp2_with (first
    | (go_loud (refine wpList_copy4 rfl (.tmp 6) (.tmp 7) 22 131 rfl 5 Tryz.underlying22 Tryz.sizeByte (w.heap.size + 1) rfl 0 0 0 0 141 ?_ _ _ _ xs rfl HY.out N hN ?_))
    | fail)
  · have := heap_alloc_new (w.alloc (.cells #[.int .u8 0, .int .u8 0, .int .u8 0, .int .u8 0] 141)) (.cells #[.int .u8 0, .int .u8 0, .int .u8 0, .int .u8 0] 141)
    simpa using this
  · intro w1 hg hc hf
    have HB1 := hidden (HB.out.grown hg HB.out.size (fun j hj => by cases hj; omega))
    have HC := hidden hc
    have r0 := hg.cell (show ((w.alloc (.cells #[.int .u8 0, .int .u8 0, .int .u8 0, .int .u8 0] 141)).alloc (.cells #[.int .u8 0, .int .u8 0, .int .u8 0, .int .u8 0] 141)).cell? ⟨w.heap.size, 0, none⟩ = some (.int .u8 0) by go_simp) (by simp)
    have r1 := hg.cell (show ((w.alloc (.cells #[.int .u8 0, .int .u8 0, .int .u8 0, .int .u8 0] 141)).alloc (.cells #[.int .u8 0, .int .u8 0, .int .u8 0, .int .u8 0] 141)).cell? ⟨w.heap.size, 1, none⟩ = some (.int .u8 0) by go_simp) (by simp)
    have r2 := hg.cell (show ((w.alloc (.cells #[.int .u8 0, .int .u8 0, .int .u8 0, .int .u8 0] 141)).alloc (.cells #[.int .u8 0, .int .u8 0, .int .u8 0, .int .u8 0] 141)).cell? ⟨w.heap.size, 2, none⟩ = some (.int .u8 0) by go_simp) (by simp)
    have r3 := hg.cell (show ((w.alloc (.cells #[.int .u8 0, .int .u8 0, .int .u8 0, .int .u8 0] 141)).alloc (.cells #[.int .u8 0, .int .u8 0, .int .u8 0, .int .u8 0] 141)).cell? ⟨w.heap.size, 3, none⟩ = some (.int .u8 0) by go_simp) (by simp)
    have rf : ∀ j, w1.frozen? ⟨w.heap.size, j, none⟩ = false := fun j => (World.frozen?_of_block (a := ⟨w.heap.size, j, none⟩) (hg.block w.heap.size (by simp; omega) (by simp))).trans (by go_simp)
    clear hg hc
    by_cases h4 : n < 4
    · obtain rfl : N = n := by rw [← hN]; exact Nat.min_eq_left (by omega)
      clear hN hf
      go_wp2_with fail
      refine ret_f4 (g := w.heap.size) (a := 0) (b := 0) (c := 0) (d := 0) rfl rfl rfl rfl rfl (by go_simp) (by go_simp) (by go_simp) (by go_simp) ?_
      exact ⟨(((HB1.out.setCell (p := ⟨w.heap.size, 0, none⟩) (Nat.le_refl _) _).setCell (p := ⟨w.heap.size, 1, none⟩) (Nat.le_refl _) _).setCell (p := ⟨w.heap.size, 2, none⟩) (Nat.le_refl _) _).setCell (p := ⟨w.heap.size, 3, none⟩) (Nat.le_refl _) _, Or.inl ⟨h4, rfl⟩⟩
    · obtain rfl : N = 4 := by rw [← hN]; exact Nat.min_eq_right (by omega)
      have hpart := H.out.part 4 n (by omega) (Nat.le_refl _)
      rw [List.take_of_length_le (by rw [H.out.len]; exact Nat.le_refl _)] at hpart
      obtain ⟨c0, c1, c2, c3⟩ : w1.cell? ⟨w.heap.size + 1, 0, none⟩ = some (.int .u8 (nthB xs 0)) ∧ w1.cell? ⟨w.heap.size + 1, 1, none⟩ = some (.int .u8 (nthB xs 1)) ∧ w1.cell? ⟨w.heap.size + 1, 2, none⟩ = some (.int .u8 (nthB xs 2)) ∧ w1.cell? ⟨w.heap.size + 1, 3, none⟩ = some (.int .u8 (nthB xs 3)) :=
        ⟨HC.out (by omega) 0 (by omega), HC.out (by omega) 1 (by omega), HC.out (by omega) 2 (by omega), HC.out (by omega) 3 (by omega)⟩
      have HR := hidden (fun wx (hb : Below w1.heap.size w1 wx) => And.intro (cell_below hb _ _ r0) (And.intro (cell_below hb _ _ r1) (And.intro (cell_below hb _ _ r2) (And.intro (cell_below hb _ _ r3) (fun j => (World.frozen?_of_block (a := ⟨w.heap.size, j, none⟩) (hb.block w.heap.size (World.block_lt_of_cell? w1 _ r0))).trans (rf j))))))
      have HK := hidden (fun wx (hb : Below w1.heap.size w1 wx) => And.intro (cell_below hb _ _ c0) (And.intro (cell_below hb _ _ c1) (And.intro (cell_below hb _ _ c2) (cell_below hb _ _ c3))))
      obtain ⟨bb, oo, rfl, -⟩ := H.out.at_ (by omega)
      have hrl := H.out.len
      have hcap := H.out.cap
      have hrng := rng_drop H.out.rng 4
      have hdl : (xs.drop 4).length = n - 4 := by rw [List.length_drop, hrl]
      have HD := hidden hdl
      have HG := hidden hrng
      have hbig := H.out.big
      unfold maxLen at hbig
      have hn4 : (4 : Int) ≤ n := by omega
      have hnc : (n : Int) ≤ c := by omega
      have HP1 := hidden hpart
      clear hpart hrl hdl hrng hN H HC HY hf
      have hcc : (c = 4 ∧ n = 4) ∨ c ≠ 4 := by omega
      go_wp2_with fail
      have HBD := hidden (show Below w1.heap.size w1 w1.drew from drew_below ⟨1, rfl⟩)
      rcases hcc with ⟨rfl, rfl⟩ | hcc
      all_goals
        first | (rw [if_pos rfl, Nat.sub_self] at HP1) | (rw [if_neg hcc, Option.map_some, WideShapes.add_plain] at HP1)
        have HPD := hidden ((HP1.out.below HB1.out).below HBD.out)
        go_region_held3 (fun w' => w'.cell? ⟨w.heap.size + 1, 0, none⟩ = some (.int .u8 (nthB xs 0)) ∧ w'.cell? ⟨w.heap.size + 1, 1, none⟩ = some (.int .u8 (nthB xs 1)) ∧ w'.cell? ⟨w.heap.size + 1, 2, none⟩ = some (.int .u8 (nthB xs 2)) ∧ w'.cell? ⟨w.heap.size + 1, 3, none⟩ = some (.int .u8 (nthB xs 3))) (first | exact HK.out _ HBD.out | exact HK.out _ (HBD.out.trans hbc) | go_keep)
          (first
          | (go_at_call 103; (with_reducible refine (cloneB_any _ _ _ _ _ HPD.out (by omega)).mono ?_); rintro e w2 ⟨v2, rfl, ho, hbc⟩; have HO2 := hidden ho; obtain ⟨z0, z1, z2, z3, zf⟩ := HR.out _ (HBD.out.trans hbc); clear r0 r1 r2 r3 rf)
          | fail)
        all_goals
          have hs1 := HB1.out.size
          have hks : w.heap.size < w1.drew.heap.size := World.block_lt_of_cell? w1 _ c0 |> fun h => by simp at h ⊢; omega
          obtain ⟨q2, d2, rfl, hf2⟩ := HO2.out.frs HD.out HG.out
          have hB2 := HB1.out.trans ((HBD.out.trans hbc).mono HB1.out.size)
          have hF := ((((hf2.low (grown_set w2 w.heap.size 0 (.int .u8 (nthB xs 0))) hks).low (grown_set _ w.heap.size 1 (.int .u8 (nthB xs 1))) hks).low (grown_set _ w.heap.size 2 (.int .u8 (nthB xs 2))) hks).low (grown_set _ w.heap.size 3 (.int .u8 (nthB xs 3))) hks).mono (by omega : w.heap.size ≤ w1.drew.heap.size)
          have hB := (((hB2.setCell (p := ⟨w.heap.size, 0, none⟩) (Nat.le_refl _) (.int .u8 (nthB xs 0))).setCell (p := ⟨w.heap.size, 1, none⟩) (Nat.le_refl _) (.int .u8 (nthB xs 1))).setCell (p := ⟨w.heap.size, 2, none⟩) (Nat.le_refl _) (.int .u8 (nthB xs 2))).setCell (p := ⟨w.heap.size, 3, none⟩) (Nat.le_refl _) (.int .u8 (nthB xs 3))
          have HF := hidden hF
          have HBB := hidden hB
          clear ho hbc HO2 hf2 hB2 hF hB
          go_wp2
          refine ret_f4 (g := w.heap.size) (a := nthB xs 0) (b := nthB xs 1) (c := nthB xs 2) (d := nthB xs 3) rfl rfl rfl rfl rfl (by go_simp) (by go_simp) (by go_simp) (by go_simp) ?_
          exact ⟨HBB.out, Or.inr ⟨by omega, q2, d2, rfl, HF.out⟩⟩
end Go.Proofs.YtnbkffehhahckaaGreat

namespace Go.Proofs.YtnbkffehhahckaaGreat
structure Is {α : Type} (a b : α) : Prop where
  eq : a = b
end Go.Proofs.YtnbkffehhahckaaGreat

namespace Go.Proofs.YtnbkffehhahckaaGreat
open Go.RowKit
set_option linter.unusedVariables false
def spiZ (k : Int) : Nat := if k = 2 ∨ k = 3 then 4 else 0
theorem spiSize_any (k : Int) (w : World) : Calls Tryz.prog 110 #[.int .i64 k] w fun e w' => e = .returned (.int .i64 (spiZ k)) ∧ w = w' := by
  by_cases h2 : k = 2
  · subst h2
    go_enter Tryz.func110, Tryz.ntmps110
    go_wp2
    go_ret
    exact ⟨rfl, rfl⟩
  by_cases h3 : k = 3
  · subst h3
    go_enter Tryz.func110, Tryz.ntmps110
    go_wp2
    go_ret
    exact ⟨rfl, rfl⟩
  · have e : spiZ k = 0 := by unfold spiZ; rw [if_neg (by omega)]
    rw [e]
    have e2 : (k == 2) = false := by simpa using h2
    have e3 : (k == 3) = false := by simpa using h3
    clear e h2 h3
    go_enter Tryz.func110, Tryz.ntmps110
    go_wp2
    go_ret
    exact ⟨rfl, rfl⟩
def notifyE (np nt size : Int) : Int := if nt < 0 ∨ 65535 < nt ∨ np < 0 ∨ 3 < np then 5 else if size = spiZ np then 0 else 20
set_option maxHeartbeats 1600000 in
set_option maxRecDepth 100000 in
theorem checkNotify_any (np nt size : Int) (ps pd : Option Addr) (ns cs nd cd : Nat) (w : World) (E : Int) (hE : notifyE np nt size = E) :
    Calls Tryz.prog 93 #[.agg #[.int .i64 np, .slice ps ns cs, .int .i64 nt, .slice pd nd cd], .int .i64 size] w fun e w' => e = .returned (.int .i64 E) ∧ Below w.heap.size w w' := by
  have HB := hidden ((Below.refl w.heap.size w).alloc (Nat.le_refl _) (.cells #[.int .i64 np, .slice ps ns cs, .int .i64 nt, .slice pd nd cd] 50))
  have HS := hidden (fun W => spiSize_any np W)
  unfold notifyE at hE
  by_cases h1 : nt < 0
  · rw [if_pos (Or.inl h1)] at hE
    subst hE
    go_enter Tryz.func93, Tryz.ntmps93
    go_wp2
    go_ret
    exact ⟨rfl, HB.out⟩
  by_cases h2 : 65535 < nt
  · rw [if_pos (Or.inr (Or.inl h2))] at hE
    subst hE
    go_enter Tryz.func93, Tryz.ntmps93
    go_wp2
    go_ret
    exact ⟨rfl, HB.out⟩
  by_cases h3 : np < 0
  · rw [if_pos (Or.inr (Or.inr (Or.inl h3)))] at hE
    subst hE
    go_enter Tryz.func93, Tryz.ntmps93
    go_wp2
    go_ret
    exact ⟨rfl, HB.out⟩
  by_cases h4 : 3 < np
  · rw [if_pos (Or.inr (Or.inr (Or.inr h4)))] at hE
    subst hE
    go_enter Tryz.func93, Tryz.ntmps93
    go_wp2
    go_ret
    exact ⟨rfl, HB.out⟩
  rw [if_neg (by omega)] at hE
  obtain ⟨Z, hZ⟩ : ∃ Z : Nat, spiZ np = Z := ⟨_, rfl⟩
  rw [hZ] at hE HS
  clear hZ
  by_cases h5 : size = (Z : Int)
  · rw [if_pos h5] at hE
    subst hE
    have e : (size != (Z : Int)) = false := by simpa using h5
    clear h5
    go_enter Tryz.func93, Tryz.ntmps93
    go_wp2_with (first
      | (go_at_call 110; (with_reducible refine (HS.out _).mono ?_); rintro e w' ⟨rfl, rfl⟩)
      | fail)
    go_ret
    exact ⟨rfl, HB.out⟩
  · rw [if_neg h5] at hE
    subst hE
    have e : (size != (Z : Int)) = true := by simpa using h5
    clear h5
    go_enter Tryz.func93, Tryz.ntmps93
    go_wp2_with (first
      | (go_at_call 110; (with_reducible refine (HS.out _).mono ?_); rintro e w' ⟨rfl, rfl⟩)
      | fail)
    go_ret
    exact ⟨rfl, HB.out⟩
def deleteE (k size count : Int) : Int := if k ≠ 1 ∧ k ≠ 2 ∧ k ≠ 3 then 5 else if size = spiZ k ∧ ¬ (k = 1 ∧ count ≠ 0) then 0 else 20
set_option maxHeartbeats 1600000 in
set_option maxRecDepth 100000 in
theorem checkDelete_any (k size count : Int) (w : World) (E : Int) (hE : deleteE k size count = E) :
    Calls Tryz.prog 95 #[.int .i64 k, .int .i64 size, .int .i64 count] w fun e w' => e = .returned (.int .i64 E) ∧ w = w' := by
  have HS := hidden (fun W => spiSize_any k W)
  unfold deleteE at hE
  by_cases h1 : k ≠ 1 ∧ k ≠ 2 ∧ k ≠ 3
  · rw [if_pos h1] at hE
    subst hE
    have e1 : (k == 1) = false := by simpa using h1.1
    have e2 : (k != 2) = true := by simpa using h1.2.1
    have e3 : (k != 3) = true := by simpa using h1.2.2
    clear h1 HS
    go_enter Tryz.func95, Tryz.ntmps95
    go_wp2
    go_ret
    exact ⟨rfl, rfl⟩
  rw [if_neg h1] at hE
  obtain ⟨Z, hZ⟩ : ∃ Z : Nat, spiZ k = Z := ⟨_, rfl⟩
  rw [hZ] at hE HS
  clear hZ
  have hk : k = 1 ∨ k = 2 ∨ k = 3 := by omega
  clear h1
  by_cases h5 : size = (Z : Int)
  · have e : (size != (Z : Int)) = false := by simpa using h5
    by_cases h6 : k = 1 ∧ count ≠ 0
    · rw [if_neg (fun h => h.2 h6)] at hE
      subst hE
      obtain ⟨rfl, h6⟩ := h6
      have e6 : (count != 0) = true := by simpa using h6
      clear h5 h6 hk
      go_enter Tryz.func95, Tryz.ntmps95
      go_wp2_with (first
        | (go_at_call 110; (with_reducible refine (HS.out _).mono ?_); rintro e w' ⟨rfl, rfl⟩)
        | fail)
      go_ret
      exact ⟨rfl, rfl⟩
    · rw [if_pos ⟨h5, h6⟩] at hE
      subst hE
      clear h5
      rcases hk with rfl | rfl | rfl
      · have e6 : (count != 0) = false := by simp; omega
        clear h6
        go_enter Tryz.func95, Tryz.ntmps95
        go_wp2_with (first
          | (go_at_call 110; (with_reducible refine (HS.out _).mono ?_); rintro e w' ⟨rfl, rfl⟩)
          | fail)
        go_ret
        exact ⟨rfl, rfl⟩
      all_goals
        clear h6
        go_enter Tryz.func95, Tryz.ntmps95
        go_wp2_with (first
          | (go_at_call 110; (with_reducible refine (HS.out _).mono ?_); rintro e w' ⟨rfl, rfl⟩)
          | fail)
        go_ret
        exact ⟨rfl, rfl⟩
  · have e : (size != (Z : Int)) = true := by simpa using h5
    rw [if_neg (fun h => h5 h.1)] at hE
    subst hE
    clear h5
    rcases hk with rfl | rfl | rfl
    all_goals
      go_enter Tryz.func95, Tryz.ntmps95
      go_wp2_with (first
        | (go_at_call 110; (with_reducible refine (HS.out _).mono ?_); rintro e w' ⟨rfl, rfl⟩)
        | fail)
      go_ret
      exact ⟨rfl, rfl⟩
end Go.Proofs.YtnbkffehhahckaaGreat

namespace Go.Proofs.YtnbkffehhahckaaGreat
open Go.RowKit
set_option linter.unusedVariables false
set_option maxHeartbeats 1600000 in
set_option maxRecDepth 100000 in
theorem checkOne_any (x : PrP) (k : Int) (w : World) (h : OkD w x) :
    Calls Tryz.prog 107 #[.agg #[.int .i64 x.n, .int .i64 x.p, .slice x.sp x.sn x.sc, .slice x.tp x.tn x.tc], .int .i64 k] w (ErrNew w (errPr x.pr k)) := by
  obtain ⟨E, hE⟩ : ∃ E, errPr x.pr k = E := ⟨_, rfl⟩
  rw [hE]
  unfold errPr PrP.pr at hE
  simp only at hE
  have hs : x.s.length = x.sn := h.s.len
  have ht : x.ts.length = x.tn := h.ts.len
  rw [hs, ht] at hE
  have hsn := h.s.le
  have htn := h.ts.le
  have HT := hidden h.ts
  have HE := hidden hE
  clear h hE hs
  obtain ⟨n, p, sp, sn, sc, s, tp, tn, tc, ts⟩ := x
  simp only at *
  have HTL := hidden ht
  clear ht
  by_cases h1 : n ≠ k
  · have hE := HE.out
    rw [if_pos h1] at hE
    have h1' : (n != k) = true := by simpa using h1
    go_enter Tryz.func107, Tryz.ntmps107
    go_wp2
    go_ret
    subst hE
    exact ⟨rfl, (Below.refl _ w).alloc (Nat.le_refl _) _⟩
  obtain rfl : n = k := by omega
  by_cases h2 : p < 1 ∨ 3 < p
  · have p1 : (p != 1) = true := by simp; omega
    have p2 : (p != 2) = true := by simp; omega
    have p3 : (p != 3) = true := by simp; omega
    have hE := HE.out
    rw [if_neg h1, if_pos h2] at hE
    clear h2
    go_enter Tryz.func107, Tryz.ntmps107
    go_wp2
    go_ret
    subst hE
    exact ⟨rfl, (Below.refl _ w).alloc (Nat.le_refl _) _⟩
  have hE0 := HE.out
  rw [if_neg h1, if_neg h2] at hE0
  have HE0 := hidden hE0
  clear hE0 HE
  obtain ⟨b, hb⟩ : ∃ b : Bool, b = true ↔ (p = 1 ∧ (sn = 0 ∨ sn = 8)) ∨ (p ≠ 1 ∧ sn = 4) := ⟨decide ((p = 1 ∧ (sn = 0 ∨ sn = 8)) ∨ (p ≠ 1 ∧ sn = 4)), by rw [decide_eq_true_iff]⟩
  have HB := hidden hb
  have HS := hidden (fun w => isSpi_any p sn w b hb)
  have hp : p = 1 ∨ p = 2 ∨ p = 3 := by omega
  clear h2 hb
  cases b with
  | false =>
    have hE := HE0.out
    have hB := HB.out
    simp at hB
    rw [if_pos (by omega)] at hE
    have HE5 := hidden hE
    clear hE HE0 HB hB
    rcases hp with rfl | rfl | rfl
    all_goals
      go_enter Tryz.func107, Tryz.ntmps107
      go_wp2_with (go_at_call 115; (with_reducible refine (HS.out _).mono ?_); rintro e w1 ⟨rfl, rfl⟩)
      go_ret
      have hE := HE5.out
      subst hE
      exact ⟨rfl, (Below.refl _ w).alloc (Nat.le_refl _) _⟩
  | true =>
    have hE := HE0.out
    have hB := HB.out
    simp at hB
    rw [if_neg (by omega)] at hE
    have HE1 := hidden hE
    clear hE HE0 HB hB
    rcases hp with rfl | rfl | rfl
    all_goals
      by_cases h7 : tn = 0
      · have hE := HE1.out
        rw [if_pos h7] at hE
        subst h7
        go_enter Tryz.func107, Tryz.ntmps107
        go_wp2_with (go_at_call 115; (with_reducible refine (HS.out _).mono ?_); rintro e w1 ⟨rfl, rfl⟩)
        go_ret
        subst hE
        exact ⟨rfl, (Below.refl _ w).alloc (Nat.le_refl _) _⟩
      by_cases h8 : 24 < tn
      · have hE := HE1.out
        rw [if_neg h7, if_pos h8] at hE
        have h7' : ((tn : Int) == 0) = false := by simp; omega
        go_enter Tryz.func107, Tryz.ntmps107
        go_wp2_with (go_at_call 115; (with_reducible refine (HS.out _).mono ?_); rintro e w1 ⟨rfl, rfl⟩)
        go_ret
        subst hE
        exact ⟨rfl, (Below.refl _ w).alloc (Nat.le_refl _) _⟩
      have hE := HE1.out
      rw [if_neg h7, if_neg h8] at hE
      have HEL := hidden hE
      have h7' : ((tn : Int) == 0) = false := by simp; omega
      clear hE HE1
      go_enter Tryz.func107, Tryz.ntmps107
      go_wp2_with (go_at_call 115; (with_reducible refine (HS.out _).mono ?_); rintro e w1 ⟨rfl, rfl⟩)
      go_loopw [47] (fun i wr => ∃ j : Nat, j ≤ tn ∧ i = .int .i64 j ∧ errTrs (ts.take j) (ts.drop j) = E ∧ wr.cell? ⟨w.heap.size, 3, none⟩ = some (.slice tp tn tc) ∧ Below w.heap.size w wr) (fun i _ => tn - (intOf i).toNat)
      case atStart => exact ⟨0, by omega, rfl, by simpa using HEL.out, by go_simp, (Below.refl _ w).alloc (Nat.le_refl _) _⟩
      case round =>
        obtain ⟨j, hj, rfl, herr, hbox, hbel⟩ := hrel
        have HBL := hidden hbel
        have HBX := hidden hbox
        by_cases hlt : ¬ j < tn
        · obtain rfl : j = tn := by omega
          rw [List.drop_of_length_le (by rw [HTL.out]; exact Nat.le_refl _), errTrs] at herr
          have HER := hidden herr
          clear herr hbel
          go_wp2
          go_ret
          have hE := HER.out
          subst hE
          exact ⟨rfl, HBL.out⟩
        replace hlt : j < tn := by omega
        have hlt' : (j : Int) < tn := by omega
        have htj := HT.out.below hbel
        obtain ⟨g, rfl, hc, hint⟩ := htj.cell j (by rw [HTL.out]; exact hlt)
        have HTJ := hidden htj
        have hcap : j ≤ tc := by have := htj.cap; omega
        have hst := errTrs_step ts j (by rw [HTL.out]; exact hlt)
        rw [herr] at hst
        obtain ⟨y, hy⟩ : ∃ y, ts[j]'(by rw [HTL.out]; exact hlt) = y := ⟨_, rfl⟩
        rw [hy] at hst hc hint
        obtain ⟨t, i, kk⟩ := y
        have c0 := hc 0 _ rfl
        have c1 := hc 1 _ rfl
        have c2 := hc 2 _ rfl
        simp only [KTr, Nat.add_zero] at c0 c1 c2
        have HST := hidden hst
        clear hst herr hbel hc hy hint htj
        simp only at HST
        have HBA : Hid (Below w.heap.size w (wr.alloc (.cells #[.int .i64 t, .int .i64 i, .int .i64 kk] 109))) := hidden (HBL.out.alloc HBL.out.size _)
        by_cases hbad : t < 1 ∨ 5 < t ∨ i < 0 ∨ 65535 < i ∨ kk < 0 ∨ 65535 < kk
        · have hE := HST.out
          rw [if_pos hbad] at hE
          have HE9 := hidden hE
          have HC := hidden (fun w => inRange_no t i kk w hbad)
          clear hE HST hbad
          go_wp2_with (go_at_call 116; (with_reducible refine (HC.out _).mono ?_); rintro e w1 ⟨rfl, hb1⟩)
          go_ret
          have hE := HE9.out
          subst hE
          exact ⟨rfl, HBA.out.trans (hb1.mono HBA.out.size)⟩
        have hst := HST.out
        rw [if_neg hbad] at hst
        have HS2 := hidden hst
        have HC := hidden (fun w => inRange_yes t i kk w hbad)
        have hbx := HBX.out
        clear hst HST hbad
        go_wp2_with fail
        go_at_call 116
        (with_reducible refine (HC.out _).mono ?_)
        rintro e w1 ⟨rfl, hb1⟩
        have hB1 := HBA.out.trans (hb1.mono HBA.out.size)
        have hb0 := ((Below.refl wr.heap.size wr).alloc (Nat.le_refl _) (.cells #[.int .i64 t, .int .i64 i, .int .i64 kk] 109)).trans (hb1.mono (by simp))
        have d3 := cell_below hb0 _ _ HBX.out
        have e0 := cell_below hb1 ⟨wr.heap.size, 0, none⟩ (.int .i64 t) (World.cell?_alloc_at _ _ _ _ rfl)
        have e1 := cell_below hb1 ⟨wr.heap.size, 1, none⟩ (.int .i64 i) (World.cell?_alloc_at _ _ _ _ rfl)
        have e2 := cell_below hb1 ⟨wr.heap.size, 2, none⟩ (.int .i64 kk) (World.cell?_alloc_at _ _ _ _ rfl)
        obtain ⟨bc, hbc⟩ : ∃ b : Bool, b = true ↔ (⟨t, i, kk⟩ : Tr) ∈ ts.take j := ⟨decide ((⟨t, i, kk⟩ : Tr) ∈ ts.take j), by rw [decide_eq_true_iff]⟩
        have HBC := hidden hbc
        have htk := (HTJ.out.below hb0).front j (by omega)
        have HTK : Hid (RdG KTr DTr w1.drew (some ⟨g, 0, none⟩) j tc (ts.take j)) := hidden (htk.below (drew_below ⟨1, rfl⟩))
        have HCT := hidden (contains_any _ _ _ _ w1.drew HTK.out t i kk bc hbc)
        have HB1 := hidden hB1
        have HD3 := hidden d3
        clear hB1 hb0 hb1 hbc htk hbx c0 c1 c2
        go_wp2_with fail
        go_region_law ((go_simp; go_at_call 117; (with_reducible refine (HCT.out).mono ?_); rintro e wA ⟨rfl, hbA⟩))
        all_goals
          have HBW := hidden (HB1.out.trans ((drew_below (B := w.heap.size) (w := w1) (w' := w1.drew) ⟨1, rfl⟩).trans (hbA.mono (by have := HB1.out.size; simpa using this))))
          have HDW := hidden (cell_below (drew_below (B := w1.heap.size) (w := w1) (w' := w1.drew) ⟨1, rfl⟩) _ _ HD3.out)
          have HDX := hidden (cell_below hbA _ _ HDW.out)
          clear hbA
          cases bc with
          | true =>
            have hE := HS2.out
            rw [if_pos (HBC.out.1 rfl)] at hE
            have HE9 := hidden hE
            clear hE HS2
            go_wp2
            go_ret
            have hE := HE9.out
            subst hE
            exact ⟨rfl, HBW.out⟩
          | false =>
            have hE := HS2.out
            rw [if_neg (fun h => by have := HBC.out.2 h; cases this)] at hE
            have HE9 := hidden hE
            clear hE HS2
            go_wp2
            go_roundw
            case rel => exact ⟨j + 1, by omega, by go_num, HE9.out.symm, HDX.out, HBW.out⟩
            case measure => simp [intOf]; omega
end Go.Proofs.YtnbkffehhahckaaGreat
