/-
  slices.Grow of nil, slices.Concat of some slices of bytes.
-/
import Derived.Test.YtgpigjoonhghhaaDoorQCZeros
import Derived.Test.YtgpigjoonhghhaaDoorQCOwnB
import Derived.Test.YtgpigjoonhghhaaDoorQCInfoB
import Derived.Test.YtgpigjoonhghhaaDoorQCCodes2
import Derived.Deep.RegionHeld3
import Derived.Deep.CutBlock
namespace Go.Proofs.YtgpigjoonhghhaaDoor
open Go.RowKit
set_option linter.unusedVariables false
section
variable {P : Program} (w : World)
theorem run_append_nilz (base : Nat) (t u ty e : TypeId) (i : TypeInfo) (ht : P.underlying t = some (.slice e)) (hu : P.underlying u = some (.int .i64)) (hi : P.info? e = some i) (hz : i.zero = some (.int .u8 0))
    (hsize : i.size = 1) (hby : i.bytes = 1) (n : Nat) (h0 : n ≠ 0) (hn : n ≤ 140737488355328) (hbase : base ≤ w.heap.size) :
    ∃ c w', (Builtin.append_ #[t, u] ty #[.slice none 0 0, .int .i64 n]).run P w = .ok (.slice (some ⟨w.heap.size, 0, none⟩) n c) w' ∧ Own w' base e (.slice (some ⟨w.heap.size, 0, none⟩) n c) (List.replicate n 0) ∧ w.grownBy w' none := by
  have hw : IntKind.i64.wrap (n : Int) = n := by rw [IntKind.wrap_i64]; omega
  have h1 : ¬ ((n : Int) < 0) := by omega
  have h2 : ¬ (281474976710656 < (n : Int)) := by omega
  have ha : ∀ (z : Int) (w' : World), (asInt (.int .i64 z)).run P w' = .ok z w' := fun z w' => by simp [asInt, asIntOf]
  have hw0 : IntKind.i64.wrap 0 = 0 := by decide
  have h63 : ¬ (9223372036854775807 < (n : Int)) := by omega
  have h48 : ¬ (281474976710656 < Builtin.nextslicecap n 0) := by
    have := nextslicecap_le (show 0 < n by omega)
    omega
  have hge := grownCap_ge w n 0 e
  have hcm' : grownCap w n 0 e ≤ maxLen := grownCap_le_maxLen w n 0 e (by unfold maxLen; omega)
  have hroom : ¬ n ≤ 0 := by omega
  refine ⟨grownCap w n 0 e, w.drew.alloc (.cells (((List.replicate n (0 : Int)).map (Value.int .u8)).toArray ++ Builtin.zeroCells (Value.int IntKind.u8 0).cells (grownCap w n 0 e - n)) e), ?_, ?_, ⟨rfl, rfl, rfl, by simp, fun k hk _ => heap_alloc_old w.drew _ hk⟩⟩
  · have hzl : Builtin.zeroCells (Value.int IntKind.u8 0).cells n = ((List.replicate n (0 : Int)).map (Value.int .u8)).toArray := by
      apply Array.ext'
      rw [zeros_list]
    simp [Builtin.append_, run_underlying ht, run_underlying hu, sizeOf, typeInfo, zeroValue, hz, hi, hsize, hby, ha, hw, h1, h2, h0, h63, h48, Question.forced, newRow, grownCap, hzl, Builtin.firstCells]
  · refine ⟨by simp, .inr ⟨w.heap.size, _, _, by simp, hbase, heap_alloc_new w.drew _, by simpa using hge, hcm', ?_, ?_⟩⟩
    · simp [size_zeroCells, Value.cells]
      omega
    · simp only [Array.toList_append, List.length_replicate, Nat.mul_one]
      exact List.take_left' (show (List.map (Value.int IntKind.u8) (List.replicate n (0 : Int))).length = n by rw [List.length_map, List.length_replicate])
theorem wpList_append_nilz {ops : Array Oper} {rest : List Oper} {o : Oper} {a : Act} {Q : Exit → Act → World → Prop} (hgd : o.guard = none) (s x : Operand) (t u : TypeId)
    (ho : o.op = .call { callee := .builtin .append, args := #[s, x], argTypes := #[t, u] })
    (base : Nat) (e : TypeId) (i : TypeInfo) (ht : P.underlying t = some (.slice e)) (hu : P.underlying u = some (.int .i64)) (hi : P.info? e = some i) (hz : i.zero = some (.int .u8 0))
    (hsize : i.size = 1) (hby : i.bytes = 1) (hs : a.eval s = .slice none 0 0) (z : Int) (n : Nat) (hx : a.eval x = .int .i64 z) (hzn : z = n)
    (h0 : n ≠ 0) (hn : n ≤ 140737488355328) (hbase : base ≤ w.heap.size)
    (h : ∀ c w', Own w' base e (.slice (some ⟨w.heap.size, 0, none⟩) n c) (List.replicate n 0) → w.grownBy w' none → wpList P ops Q rest (a.put o.dst (.slice (some ⟨w.heap.size, 0, none⟩) n c)) w') : wpList P ops Q (o :: rest) a w := by
  refine wpList_plain hgd fun K hK => ?_
  subst hzn
  obtain ⟨c, w', hr, h2, h3⟩ := run_append_nilz (P := P) w base t u o.type e i ht hu hi hz hsize hby n h0 hn hbase
  unfold Oper.wp execOp
  simp only [ho, resolve, invoke, builtin, Sem.run_bind, Sem.run_pure, Result.andThen_ok, List.map_toArray, List.map_cons, List.map_nil, hs, hx, hr]
  exact hK _ _ (h c w' h2 h3)
end
theorem Own.cut0 {w : World} {base : Nat} {e : TypeId} {g n c : Nat} {xs : List Int} (h : Own w base e (.slice (some ⟨g, 0, none⟩) n c) xs) : Own w base e (.slice (some ⟨g, 0, none⟩) 0 c) [] := by
  refine ⟨rfl, ?_⟩
  rcases h.2 with ⟨hv, _⟩ | ⟨g', cap, cur, hv, hbg, hg, hnc, hcm, hcs, htake⟩
  · simp at hv
  · simp at hv
    obtain ⟨rfl, _, rfl⟩ := hv
    exact Or.inr ⟨g, c, cur, rfl, hbg, hg, Nat.zero_le _, hcm, hcs, by simp⟩
set_option maxHeartbeats 400000 in
set_option maxRecDepth 100000 in
theorem grow_nil (n : Nat) (hn : n ≤ 140737488355328) (w : World) :
    Calls Tryd.prog 53 #[.slice none 0 0, .int .i64 n] w fun e w' => ∃ v, e = .returned v ∧ Own w' w.heap.size 5 v [] ∧ Below w.heap.size w w' := by
  obtain ⟨i0, hi0, hz0, hz1, hz2⟩ := info_parts Tryd.infoByte
  by_cases h0 : n = 0
  · subst h0
    go_enter Tryd.func53, Tryd.ntmps53
    go_wp2
    go_ret
    exact ⟨_, rfl, Own.nil _ _ _, Below.refl _ _⟩
  · have hpos : (n : Int) > 0 := by omega
    go_enter Tryd.func53, Tryd.ntmps53
    go_wp2_with (first
      | (at_builtin; go_loud (refine wpList_append_nilz _ rfl _ _ 22 3 rfl w.heap.size 5 i0 Tryd.underlying22 Tryd.underlying3 hi0 hz0 hz1 hz2 rfl _ n rfl (by first | rfl | go_num) h0 hn (Nat.le_refl _) ?_))
      | fail)
    intro c w1 hown hg
    have HO := hidden hown
    have hc := hown.2
    have hcap : n ≤ c := by
      rcases hown.2 with ⟨hv, _⟩ | ⟨g', cap, cur, hv, hbg, hg', hnc, hcm, hcs, htake⟩
      · simp at hv
      · simp at hv
        obtain ⟨rfl, rfl⟩ := hv
        simpa using hnc
    have HB := hidden ((Below.refl w.heap.size w).grown hg (Nat.le_refl _) (by simp))
    clear hown hg hc
    go_wp2
    go_ret
    exact ⟨_, rfl, HO.out.cut0, HB.out⟩
structure Part where
  p : Option Addr
  n : Nat
  c : Nat
  xs : List Int
structure Parts (w : World) (q : Option Addr) (m d : Nat) (l : List Part) : Prop where
  len : l.length = m
  cap : m ≤ d
  big : d ≤ maxLen
  mem : 0 < m → ∃ g, q = some ⟨g, 0, none⟩ ∧ ∀ j (hj : j < l.length), w.cell? ⟨g, j, none⟩ = some (.slice l[j].p l[j].n l[j].c)
  byt : ∀ x ∈ l, Byt w x.p x.n x.c x.xs
def bytesOf (l : List Part) : List Int := l.flatMap Part.xs
def sizeOf' (l : List Part) : Nat := (l.map Part.n).sum
theorem Parts.below {w w' : World} {q : Option Addr} {m d : Nat} {l : List Part} (h : Parts w q m d l) (hb : Below w.heap.size w w') : Parts w' q m d l :=
  ⟨h.len, h.cap, h.big, fun h0 => by
    obtain ⟨g, e, hc⟩ := h.mem h0
    exact ⟨g, e, fun j hj => cell_below hb _ _ (hc j hj)⟩, fun x hx => (h.byt x hx).below hb⟩
theorem bytesOf_len' {w : World} {l : List Part} (hb : ∀ x ∈ l, Byt w x.p x.n x.c x.xs) : (bytesOf l).length = sizeOf' l := by
  induction l with
  | nil => rfl
  | cons x l ih =>
    have h1 := (hb x (by simp)).len
    have h2 := ih (fun y hy => hb y (by simp [hy]))
    simp only [bytesOf, sizeOf', List.flatMap_cons, List.length_append, List.map_cons, List.sum_cons] at h2 ⊢
    omega
theorem sizeOf_take (l : List Part) (j : Nat) (hj : j < l.length) : sizeOf' (l.take (j + 1)) = sizeOf' (l.take j) + l[j].n := by
  unfold sizeOf'
  rw [List.take_succ_eq_append_getElem hj, List.map_append, List.sum_append]
  simp
theorem sizeOf_le (l : List Part) (j : Nat) : sizeOf' (l.take j) ≤ sizeOf' l := by
  unfold sizeOf'
  conv => rhs; rw [← List.take_append_drop j l]
  rw [List.map_append, List.sum_append]
  omega
theorem bytesOf_take (l : List Part) (j : Nat) (hj : j < l.length) : bytesOf (l.take (j + 1)) = bytesOf (l.take j) ++ l[j].xs := by
  unfold bytesOf
  rw [List.take_succ_eq_append_getElem hj, List.flatMap_append]
  simp
set_option maxHeartbeats 1600000 in
set_option maxRecDepth 100000 in
theorem concat_any (q : Option Addr) (m d : Nat) (l : List Part) (w : World) (h : Parts w q m d l) (hs : sizeOf' l ≤ 140737488355328) :
    Calls Tryd.prog 34 #[.slice q m d] w fun e w' => ∃ v, e = .returned v ∧ Own w' w.heap.size 5 v (bytesOf l) ∧ Below w.heap.size w w' := by
  obtain ⟨i0, hi0, hz0, hz1, hz2⟩ := info_parts Tryd.infoByte
  have H := hidden h
  have hm := h.cap
  have hbig := h.big
  unfold maxLen at hbig
  have HL := hidden h.len
  have HS := hidden (sizeOf_le l)
  clear h
  go_enter Tryd.func34, Tryd.ntmps34
  go_upto_region 3 with fail
  go_wp2_with fail
  go_loopw [3, 11] (fun z i wr => ∃ j : Nat, j ≤ m ∧ i = .int .i64 j ∧ z = .int .i64 (sizeOf' (l.take j) : Nat) ∧ wr = w) (fun _ i _ => m - (intOf i).toNat)
  case atStart => exact ⟨0, by omega, rfl, rfl, rfl⟩
  case round =>
    obtain ⟨j, hj, rfl, rfl, rfl⟩ := hrel
    by_cases hlt : j < m
    · have hlt' : (j : Int) < m := by omega
      have hjl : j < l.length := by rw [HL.out]; exact hlt
      obtain ⟨g, rfl, hc⟩ := H.out.mem (by omega)
      have c0 := hc j hjl
      have hst := sizeOf_take l j hjl
      have hsl := HS.out (j + 1)
      have hny := (H.out.byt _ (List.getElem_mem hjl)).len
      generalize l[j] = x at *
      obtain ⟨xp, xn, xc, xx⟩ := x
      simp only at c0 hst
      obtain ⟨S, hS⟩ : ∃ S, sizeOf' (l.take j) = S := ⟨_, rfl⟩
      obtain ⟨S', hS'⟩ : ∃ S, sizeOf' (l.take (j + 1)) = S := ⟨_, rfl⟩
      have HS' := hidden hS'
      rw [hS, hS'] at hst
      rw [hS'] at hsl
      rw [hS]
      have hw : IntKind.i64.wrap ((S : Int) + xn) = (S : Int) + xn := by rw [IntKind.wrap_i64]; omega
      have hnn : ¬ ((S : Int) + xn < 0) := by omega
      clear hc hny hS hS'
      go_wp2
      go_roundw
      case rel => exact ⟨j + 1, by omega, by go_num, by rw [HS'.out, hst]; simp, trivial⟩
      case measure => simp [intOf]; omega
    · obtain rfl : j = m := by omega
      rename World => w0
      have hst : sizeOf' (l.take j) = sizeOf' l := by rw [List.take_of_length_le (by rw [HL.out]; exact Nat.le_refl _)]
      rw [hst]
      go_upto_region 11 with (first
        | (go_at_call 53; (with_reducible refine (grow_nil (sizeOf' l) hs _).mono ?_); rintro e w1 ⟨v1, rfl, ho, hb⟩; have HO := hidden ho; have HB := hidden hb; clear ho hb)
        | fail)
      go_wp2_with fail
      go_loopw [6, 27] (fun v i wx => ∃ k : Nat, k ≤ j ∧ i = .int .i64 k ∧ Own wx w0.heap.size 5 v (bytesOf (l.take k)) ∧ Below w0.heap.size w0 wx) (fun _ i _ => j - (intOf i).toNat)
      case atStart => exact ⟨0, by omega, rfl, HO.out, HB.out⟩
      case round =>
        obtain ⟨k, hk, rfl, ho, hb⟩ := hrel
        have HO := hidden ho
        have HB := hidden hb
        by_cases hlt : k < j
        · have hlt' : (k : Int) < j := by omega
          have hkl : k < l.length := by rw [HL.out]; exact hlt
          obtain ⟨g, rfl, hc⟩ := (H.out.below hb).mem (by omega)
          have c0 := hc k hkl
          have hbt := bytesOf_take l k hkl
          have hst2 := sizeOf_take l k hkl
          have hsl := HS.out (k + 1)
          have HY := hidden ((H.out.byt _ (List.getElem_mem hkl)).below hb)
          have hlen : (bytesOf (l.take k)).length = sizeOf' (l.take k) := bytesOf_len' (w := w0) (fun x hx => H.out.byt x (List.mem_of_mem_take hx))
          generalize l[k] = x at *
          obtain ⟨xp, xn, xc, xx⟩ := x
          simp only at c0 hst2 hbt HY
          have HBT := hidden hbt
          have hroom : (bytesOf (l.take k)).length + xn ≤ 140737488355328 := by omega
          clear hc hbt hlen hst2 hsl ho hb
          go_wp2_with (first
            | (at_builtin; go_loud (refine wpList_append_byt _ rfl _ _ 22 rfl w0.heap.size 5 i0 (.int .u8 0) Tryd.underlying22 hi0 hz0 hz1 hz2 rfl _ _ rfl HO.out _ _ _ _ _ rfl HY.out rfl hroom HB.out.size ?_))
            | fail)
          intro v2 w2 ho2 hg2
          have HB2 := hidden (HB.out.grown hg2 HB.out.size (fun i hi => (HO.out.lt i hi).1))
          rw [← HBT.out] at ho2
          have HO2 := hidden ho2
          clear ho2 hg2 HO HB
          go_wp2
          go_roundw
          case rel => exact ⟨k + 1, by omega, by go_num, HO2.out, HB2.out⟩
          case measure => simp [intOf]; omega
        · obtain rfl : k = j := by omega
          have hbt : bytesOf (l.take k) = bytesOf l := by rw [List.take_of_length_le (by rw [HL.out]; exact Nat.le_refl _)]
          rw [hbt] at HO
          clear ho hb
          go_wp2
          go_ret
          exact ⟨_, rfl, HO.out, HB.out⟩
end Go.Proofs.YtgpigjoonhghhaaDoor
