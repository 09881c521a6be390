/-
  Growing slices of bytes, whatever the program: append, make and copy on a row that the call owns, the bytes told by a list of numbers.
  What the program knows of bytes, and a row of the call's own that was just made.
  A list of choices: what its methods return is a number in range, and they write nothing but the list's own place.
  A row of bytes of the call's own: seen from an earlier place, and in a later world.
  A range over a function whose function keeps a state of its own in one block, whatever the program: the statement's law, where the body always goes on.
  A range over a function that is a closure: the statement's law, where the body always goes on. The closure may write one block R of its own; the body keeps what lies below B, but for the block X.
  append(b, make([]byte, n)...) on a row of the call's own that is not empty: n zeros more.
-/
import Derived.Test.YtkniifopfgeopaaDoorHZ0
import Derived.Test.YtkniifopfgeopaaDoorRows
import Derived.Laws.CopyOwn
import Derived.Deep.QuietTactic
import Derived.BigQuiet
import Derived.RangeFuncNested
import Derived.RangeFuncBound
import Derived.RangeFuncCalls
import Derived.RangeFuncLeaves
import Derived.Shelf.Abstract
import Derived.WalkKit
namespace Go.Proofs.YtkniifopfgeopaaDoor
open Go.RowKit

/-- The call's own row v holds the bytes xs. -/
def Own (w : World) (base : Nat) (e : TypeId) (v : Value) (xs : List Int) : Prop := w.ownsRow base e 1 v xs.length (xs.map (Value.int .u8))

theorem Own.nil (w : World) (base : Nat) (e : TypeId) : Own w base e (.slice none 0 0) [] := World.ownsRow_nil w base e 1
theorem Own.alloc {w : World} {base : Nat} {e : TypeId} {v : Value} {xs : List Int} (h : Own w base e v xs) (o : Obj) : Own (w.alloc o) base e v xs := World.ownsRow.alloc h o
theorem Own.drew {w : World} {base : Nat} {e : TypeId} {v : Value} {xs : List Int} (h : Own w base e v xs) : Own w.drew base e v xs := h
theorem Own.byt {w : World} {base : Nat} {e : TypeId} {v : Value} {xs : List Int} (h : Own w base e v xs) (hr : ∀ x ∈ xs, 0 ≤ x ∧ x ≤ 255) : ∃ p c, v = .slice p xs.length c ∧ Byt w p xs.length c xs := Byt.of_own h hr
theorem Own.bytN {w : World} {base : Nat} {e : TypeId} {v : Value} {xs us : List Int} {N : Nat} (h : Own w base e v xs) (hu : xs = us) (hN : us.length = N) (hr : ∀ x ∈ us, 0 ≤ x ∧ x ≤ 255) : ∃ p c, v = .slice p N c ∧ Byt w p N c us := by
  subst hu
  subst hN
  exact h.byt hr
theorem Own.lt {w : World} {base : Nat} {e : TypeId} {v : Value} {xs : List Int} (h : Own w base e v xs) : ∀ k, v.ownBlock = some k → base ≤ k ∧ k < w.heap.size := World.ownsRow.lt h
/-- A row that is not empty: where it lies, its cells, and that none is frozen. -/
theorem Own.at_ {w : World} {base : Nat} {e : TypeId} {v : Value} {xs : List Int} (h : Own w base e v xs) {n : Nat} (hn : xs.length = n) (hp : 0 < n) :
    ∃ g c, v = .slice (some ⟨g, 0, none⟩) n c ∧ base ≤ g ∧ g < w.heap.size ∧ (∀ j, j < n → w.cell? ⟨g, j, none⟩ = some (.int .u8 (xs.getD j 0))) ∧ (∀ j, w.frozen? ⟨g, j, none⟩ = false) := by
  subst hn
  have h0 := h
  rcases h.2 with ⟨rfl, hz⟩ | ⟨g, cap, cur, rfl, hb, hh, hn, hc, hs, ht⟩
  · omega
  · refine ⟨g, cap, rfl, hb, (Array.getElem?_eq_some_iff.1 hh).1, fun j hj => ?_, fun j => World.ownsRow.frozenAt h0 j⟩
    rw [World.ownsRow.cellAt h0 j (by omega)]
    simp [List.getD_eq_getElem?_getD, List.getElem?_eq_getElem hj]
/-- A store into the row. -/
theorem Own.set {w : World} {base : Nat} {e : TypeId} {g n c : Nat} {xs : List Int} (h : Own w base e (.slice (some ⟨g, 0, none⟩) n c) xs) (hn : xs.length = n) (j : Nat) (x : Int) :
    Own (w.setCell ⟨g, j, none⟩ (.int .u8 x)) base e (.slice (some ⟨g, 0, none⟩) n c) (xs.set j x) := by
  subst hn
  have := (World.ownsRow.stored h j (.int .u8 x)).1
  unfold Own
  rw [List.length_set, List.map_set]
  exact this
theorem Own.form {w : World} {base : Nat} {e : TypeId} {v : Value} {xs : List Int} (h : Own w base e v xs) : ∃ p c, v = .slice p xs.length c := by
  rcases h.2 with ⟨rfl, hn⟩ | ⟨g, cap, cur, rfl, _⟩
  · exact ⟨none, 0, by rw [hn]⟩
  · exact ⟨_, _, rfl⟩

theorem nob (b : Nat) : ∀ k, (Value.slice none 0 0).ownBlock = some k → b ≤ k := fun k hk => by simp [Value.ownBlock] at hk

section
variable {P : Program} (w : World)

theorem run_append_byt (base : Nat) (t ty e : TypeId) (i : TypeInfo) (z : Value) (ht : P.underlying t = some (.slice e)) (hi : P.info? e = some i) (hz : i.zero = some z)
    (hsize : i.size = 1) (hby : i.bytes = 1) (hzs : z.cells.size = 1) (v : Value) (xs : List Int) (hown : Own w base e v xs)
    (p : Option Addr) (m c : Nat) (ys : List Int) (hy : Byt w p m c ys) (hb : xs.length + m ≤ 140737488355328) (hbase : base ≤ w.heap.size) :
    ∃ v' w', (Builtin.append_ #[t, t] ty #[v, .slice p m c]).run P w = .ok v' w' ∧ Own w' base e v' (xs ++ ys) ∧ w.grownBy w' v.ownBlock := by
  have hl := hy.len
  cases p with
  | none =>
    have hm : m = 0 := by
      rcases Nat.eq_zero_or_pos m with h0 | h0
      · exact h0
      · obtain ⟨b, o, h, _⟩ := hy.at_ h0
        cases h
    subst hm
    obtain rfl : ys = [] := List.eq_nil_of_length_eq_zero hl
    refine ⟨v, w, ?_, by rw [List.append_nil]; exact hown, World.grownBy.refl w _⟩
    rcases hown.2 with ⟨rfl, hx⟩ | ⟨g, cap, cur, rfl, _, _, hnc, _⟩
    · simp [Builtin.append_, run_underlying ht, sizeOf, typeInfo, hi, Builtin.lenOf, Builtin.firstCells]
    · simp [Builtin.append_, run_underlying ht, sizeOf, typeInfo, hi, Builtin.lenOf, Builtin.firstCells, hnc, storeCells]
  | some a =>
    obtain ⟨v', w', hr, h2, h3, _⟩ := run_append_own (P := P) w base t ty e i z 1 1 ht hi hz hsize hby hzs (by decide) v xs.length (xs.map (Value.int .u8)) hown a m c (ys.map (Value.int .u8)) (by simp [hl])
      (fun j u hj => hy.src j u hj) (u8_one ys) (by unfold maxLen; omega) (by omega) hbase
    refine ⟨v', w', hr, ?_, h3⟩
    unfold Own
    rw [List.length_append, List.map_append, hl]
    exact h2

/-- append(v, src...) as a law of one operation. -/
theorem wp_append_byt {o : Oper} {a : Act} {K : Act → World → Prop} {Q : Exit → Act → World → Prop} (s x : Operand) (t : TypeId)
    (ho : o.op = .call { callee := .builtin .append, args := #[s, x], argTypes := #[t, t] })
    (base : Nat) (e : TypeId) (i : TypeInfo) (z : Value) (ht : P.underlying t = some (.slice e)) (hi : P.info? e = some i) (hz : i.zero = some z)
    (hsize : i.size = 1) (hby : i.bytes = 1) (hzs : z.cells.size = 1) (v : Value) (xs : List Int) (hs : a.eval s = v) (hown : Own w base e v xs)
    (p : Option Addr) (m c m' : Nat) (ys : List Int) (hx : a.eval x = .slice p m c) (hy : Byt w p m' c ys) (hm : m = m') (hb : xs.length + m ≤ 140737488355328) (hbase : base ≤ w.heap.size)
    (h : ∀ v' w', Own w' base e v' (xs ++ ys) → w.grownBy w' v.ownBlock → K (a.put o.dst v') w') : o.wp P a w K Q := by
  subst hm
  obtain ⟨v', w', hr, h2, h3⟩ := run_append_byt (P := P) w base t o.type e i z ht hi hz hsize hby hzs v xs hown p m c ys hy hb hbase
  unfold Oper.wp execOp
  simp only [ho, resolve, invoke, builtin, Sem.run_bind, Sem.run_pure, Result.andThen_ok, List.map_toArray, List.map_cons, List.map_nil, hs, hx, hr]
  exact h v' w' h2 h3

/-- append(v, src...) as a law of the walk; the operation may stand behind a guard that says yes. -/
theorem wpList_append_byt {ops : Array Oper} {rest : List Oper} {o : Oper} {a : Act} {Q : Exit → Act → World → Prop} (hw : Region.wanted o (yielded ops a.tmps) = true) (s x : Operand) (t : TypeId)
    (ho : o.op = .call { callee := .builtin .append, args := #[s, x], argTypes := #[t, t] })
    (base : Nat) (e : TypeId) (i : TypeInfo) (z : Value) (ht : P.underlying t = some (.slice e)) (hi : P.info? e = some i) (hz : i.zero = some z)
    (hsize : i.size = 1) (hby : i.bytes = 1) (hzs : z.cells.size = 1) (v : Value) (xs : List Int) (hs : a.eval s = v) (hown : Own w base e v xs)
    (p : Option Addr) (m c m' : Nat) (ys : List Int) (hx : a.eval x = .slice p m c) (hy : Byt w p m' c ys) (hm : m = m') (hb : xs.length + m ≤ 140737488355328) (hbase : base ≤ w.heap.size)
    (h : ∀ v' w', Own w' base e v' (xs ++ ys) → w.grownBy w' v.ownBlock → wpList P ops Q rest (a.put o.dst v') w') : wpList P ops Q (o :: rest) a w := by
  refine wpList_step fun K hK => ?_
  rw [if_pos hw]
  exact wp_append_byt w s x t ho base e i z ht hi hz hsize hby hzs v xs hs hown p m c m' ys hx hy hm hb hbase fun v' w' h2 h3 => hK _ _ (h v' w' h2 h3)

/-- append(v, src...) as one step of a region that draws its order. -/
theorem step_append_byt {ops : Array Oper} {o : Oper} {a : Act} {K : Act → World → Prop} {Q : Exit → Act → World → Prop} {E : Prop} (hw : Region.wanted o (yielded ops a.tmps) = true) (s x : Operand) (t : TypeId)
    (ho : o.op = .call { callee := .builtin .append, args := #[s, x], argTypes := #[t, t] })
    (base : Nat) (e : TypeId) (i : TypeInfo) (z : Value) (ht : P.underlying t = some (.slice e)) (hi : P.info? e = some i) (hz : i.zero = some z)
    (hsize : i.size = 1) (hby : i.bytes = 1) (hzs : z.cells.size = 1) (v : Value) (xs : List Int) (hs : a.eval s = v) (hown : Own w base e v xs)
    (p : Option Addr) (m c m' : Nat) (ys : List Int) (hx : a.eval x = .slice p m c) (hy : Byt w p m' c ys) (hm : m = m') (hb : xs.length + m ≤ 140737488355328) (hbase : base ≤ w.heap.size)
    (h : ∀ v' w', Own w' base e v' (xs ++ ys) → w.grownBy w' v.ownBlock → K (a.put o.dst v') w') :
    if Region.wanted o (yielded ops a.tmps) = true then Oper.wp P o a w K Q else E := by
  rw [if_pos hw]
  exact wp_append_byt w s x t ho base e i z ht hi hz hsize hby hzs v xs hs hown p m c m' ys hx hy hm hb hbase h

/-- append(v, b) of one byte that lies in a block of one cell that was just made. -/
theorem one_byte (b : Nat) (x : Int) (hx : 0 ≤ x ∧ x ≤ 255) (hc : w.cell? ⟨b, 0, none⟩ = some (.int .u8 x)) : Byt w (some ⟨b, 0, none⟩) 1 1 [x] :=
  ⟨rfl, Nat.le_refl _, by unfold maxLen; omega, fun y hy => by simp at hy; omega, fun _ => ⟨b, 0, rfl, fun i hi => by
    obtain rfl : i = 0 := by simp at hi; omega
    exact hc⟩⟩

/-- make([]byte, n, c). -/
theorem wpList_make_byt {ops : Array Oper} {rest : List Oper} {o : Oper} {a : Act} {Q : Exit → Act → World → Prop} (hgd : o.guard = none) (l c : Operand) (t : TypeId) (hop : o.op = Op.makeSlice t l c)
    (base : Nat) (e : TypeId) (i : TypeInfo) (ht : P.underlying t = some (.slice e)) (hi : P.info? e = some i) (hz : i.zero = some (.int .u8 0)) (hsize : i.size = 1) (hby : i.bytes = 1)
    (kl kc : IntKind) (L C : Int) (n m : Nat) (hl : a.eval l = .int kl L) (hc : a.eval c = .int kc C) (hL : L = (n : Int)) (hC : C = (m : Int)) (hnm : n ≤ m) (hb : m ≤ 281474976710656) (hbase : base ≤ w.heap.size)
    (hK : ∀ w', Own w' base e (.slice (some ⟨w.heap.size, 0, none⟩) n m) (List.replicate n 0) → w.grownBy w' none → wpList P ops Q rest (a.put o.dst (.slice (some ⟨w.heap.size, 0, none⟩) n m)) w') :
    wpList P ops Q (o :: rest) a w := by
  refine wpList_plain hgd fun K hK' => ?_
  subst hL hC
  have hr := run_make (P := P) w t e i (.int .u8 0) ht hi hz kl kc n m (by omega) (by omega) (by rw [hby]; omega) (by omega)
  simp only [Int.toNat_natCast, hsize, Nat.mul_one] at hr
  unfold Oper.wp
  simp [execOp, hop, hl, hc, hr, Result.andThen]
  refine hK' _ _ (hK _ ⟨by simp, .inr ⟨w.heap.size, m, _, by simp, hbase, heap_alloc_new w _, by simpa using hnm, by unfold maxLen; omega, by simp [size_madeCells], ?_⟩⟩ (World.grownBy_alloc w _ none))
  rw [show (Value.int IntKind.u8 0).cells = #[.int .u8 0] from rfl, toList_madeCells_one]
  simp [List.take_replicate, Nat.min_eq_left hnm]

/-- copy(out, src), where out is the call's own and just as long as src. -/
theorem wpList_copy_byt {ops : Array Oper} {rest : List Oper} {o : Oper} {a : Act} {Q : Exit → Act → World → Prop} (hgd : o.guard = none) (d s : Operand) (t : TypeId)
    (ho : o.op = .call { callee := .builtin .copy, args := #[d, s], argTypes := #[t, t] }) (base : Nat) (e : TypeId) (ht : P.underlying t = some (.slice e)) (hsz : (P.info? e).map (·.size) = some 1)
    (g n m : Nat) (zs : List Int) (hd : a.eval d = .slice (some ⟨g, 0, none⟩) n m) (hzn : zs.length = n) (hown : Own w base e (.slice (some ⟨g, 0, none⟩) n m) zs)
    (p : Option Addr) (c : Nat) (ys : List Int) (hs : a.eval s = .slice p n c) (hy : Byt w p n c ys)
    (h : ∀ w', Own w' base e (.slice (some ⟨g, 0, none⟩) n m) ys → w.grownBy w' (some g) → wpList P ops Q rest (a.put o.dst (goInt n)) w') : wpList P ops Q (o :: rest) a w := by
  have hlen := hy.len
  subst hzn
  rcases Nat.eq_zero_or_pos zs.length with h0 | h0
  · refine wpList_copy_nothing hgd d s t t ho e ht hsz _ _ _ _ _ _ hd hs (by simp [h0]) ?_
    have e1 : ys = zs := by rw [List.eq_nil_of_length_eq_zero h0, List.eq_nil_of_length_eq_zero (hlen.trans h0)]
    have := h w (by rw [e1]; exact hown) (World.grownBy.refl w _)
    rw [h0] at this
    exact this
  · obtain ⟨b, off, rfl, hc⟩ := hy.at_ h0
    rcases hown.2 with ⟨hv, _⟩ | ⟨g', cap, cur, hv, hg, hh, hn, hm, hcs, htk⟩
    · simp at hv
    simp only [Value.slice.injEq, Option.some.injEq, Addr.mk.injEq, and_true, true_and] at hv
    obtain ⟨rfl, rfl⟩ := hv
    refine wpList_copy_own hgd d s t t ho e ht hsz g 0 _ _ _ _ _ hd hs cur e hh (ys.map (Value.int .u8)) (by simp [hlen]) (fun j u hj => hy.src j u hj) (by simp [hlen, hcs]; omega) (u8_one ys) ?_
    have := h (w.setRow g (cur.toList.take 0 ++ (ys.map (Value.int .u8) ++ cur.toList.drop (0 + (ys.map (Value.int .u8)).length))).toArray)
      ⟨by simp, .inr ⟨g, m, _, by rw [hlen], hg, setRow_heap w g _ _ e _ hh, by omega, hm, by simp [hlen, hcs]; omega, by simp⟩⟩
      ⟨rfl, rfl, rfl, by simp, fun k hk hne => setRow_other w g k _ (fun e => hne (by rw [e]))⟩
    simpa [hlen] using this
end
end Go.Proofs.YtkniifopfgeopaaDoor

namespace Go.Proofs.YtkniifopfgeopaaDoor
open Go.RowKit
set_option linter.unusedVariables false

theorem Tryd.infoByte : (Tryd.prog.info? 5).map (fun i => (i.zero, i.size, i.bytes)) = some (some (.int .u8 0), 1, 1) := by kernel_rfl
theorem Tryd.sizeByte : (Tryd.prog.info? 5).map (·.size) = some 1 := by kernel_rfl

theorem Own.made (w : World) (base : Nat) (e : TypeId) (hb : base ≤ w.heap.size) : Own (w.alloc (.cells #[] e)) base e (.slice (some ⟨w.heap.size, 0, none⟩) 0 0) [] :=
  World.ownsRow_made w #[] 0 hb (Nat.zero_le _) rfl
end Go.Proofs.YtkniifopfgeopaaDoor

namespace Go.Proofs.YtkniifopfgeopaaDoor
open Go.RowKit
set_option linter.unusedVariables false

/-- The choices at block k, in a call that began at the world W. -/
structure Cod (W w : World) (k : Nat) : Prop where
  base : W.heap.size ≤ k
  bel : Below W.heap.size W w
  free : ∀ j, w.frozen? ⟨k, j, none⟩ = false
  list : ∃ p n c xs, ∃ t : Nat, Byt W p n c xs ∧ t ≤ n ∧ w.cell? ⟨k, 0, none⟩ = some (.slice p n c) ∧ w.cell? ⟨k, 1, none⟩ = some (.int .i64 t)

theorem grown_trans {a b c : World} {row : Option Nat} (h : a.grownBy b row) (k : b.grownBy c row) : a.grownBy c row :=
  ⟨k.os.trans h.os, k.tape.trans h.tape, k.output.trans h.output, Nat.le_trans h.size k.size, fun i hi hne => (k.block i (Nat.lt_of_lt_of_le hi h.size) hne).trans (h.block i hi hne)⟩
theorem grown_refl (w : World) (row : Option Nat) : w.grownBy w row := ⟨rfl, rfl, rfl, Nat.le_refl _, fun _ _ _ => rfl⟩
theorem grown_of_below {w w' : World} (h : Below w.heap.size w w') (row : Option Nat) : w.grownBy w' row := ⟨h.os, h.tape, h.output, h.size, fun i hi _ => h.block i hi⟩
theorem grown_drewN (w : World) (r : Nat) (row : Option Nat) : w.grownBy (w.drewN r) row := ⟨rfl, rfl, rfl, Nat.le_refl _, fun _ _ _ => rfl⟩
theorem grown_set (w : World) (k j : Nat) (v : Value) : w.grownBy (w.setCell ⟨k, j, none⟩ v) (some k) :=
  ⟨rfl, rfl, rfl, by simp [World.setCell], fun i hi hne => Below.heap_setCell _ _ _ _ (by simp at hne; exact hne)⟩
theorem Cod.lt {W w : World} {k : Nat} (h : Cod W w k) : k < w.heap.size := by
  obtain ⟨p, n, c, xs, t, _, _, h0, _⟩ := h.list
  exact World.block_lt_of_cell? w _ h0
/-- The choices stay while other blocks are written. -/
theorem Cod.grown {W w w' : World} {k : Nat} {row : Option Nat} (h : Cod W w k) (hg : w.grownBy w' row) (hne : some k ≠ row) (hr : ∀ j, row = some j → W.heap.size ≤ j) : Cod W w' k := by
  have hk := h.lt
  obtain ⟨p, n, c, xs, t, hb, ht, h0, h1⟩ := h.list
  exact ⟨h.base, h.bel.grown hg h.bel.size hr, fun j => (World.frozen?_of_block (a := ⟨k, j, none⟩) (hg.block k hk hne)).trans (h.free j), p, n, c, xs, t, hb, ht, hg.cell h0 hne, hg.cell h1 hne⟩
theorem Cod.below {W w w' : World} {k : Nat} (h : Cod W w k) (hb : Below w.heap.size w w') : Cod W w' k := h.grown (row := none) (grown_of_below hb none) (by simp) (by simp)

theorem left_at (k : Nat) (p : Option Addr) (n c t : Nat) (w : World) (h0 : w.cell? ⟨k, 0, none⟩ = some (.slice p n c)) (h1 : w.cell? ⟨k, 1, none⟩ = some (.int .i64 t)) (hn : n ≤ 9223372036854775807) :
    Calls Tryd.prog 57 #[.pointer (some ⟨k, 0, none⟩)] w fun e w' => e = .returned (.bool (decide (t < n))) ∧ ∃ r, w' = w.drewN r := by
  go_enter Tryd.func57, Tryd.ntmps57
  go_wp2
  go_quiet (fail)
  go_wp2
  go_ret
  refine ⟨?_, _, rfl⟩
  simp

set_option maxHeartbeats 400000 in
theorem next_any (W w : World) (k : Nat) (h : Cod W w k) (m : Int) (hm : 1 ≤ m ∧ m ≤ 9223372036854775807) :
    Calls Tryd.prog 28 #[.pointer (some ⟨k, 0, none⟩), .int .i64 m] w fun e w' => ∃ r : Int, e = .returned (.int .i64 r) ∧ 0 ≤ r ∧ r < m ∧ Cod W w' k ∧ w.grownBy w' (some k) := by
  obtain ⟨p, n, c, xs, t, hb, ht, h0, h1⟩ := h.list
  have hle := hb.le
  by_cases hlt : t < n
  · obtain ⟨b, o, rfl, hc⟩ := hb.at_ (by omega)
    have hbl := hb.lt (by omega)
    have hbase := h.base
    have hfr := h.free 1
    have hne : b ≠ k := by omega
    have hx := (cell_below h.bel _ _ (hc t hlt))
    have hr := rng_getD hb.rng t
    generalize xs.getD t 0 = x at hx hr
    have H := hidden h
    have HB := hidden hb
    have e2 : x.tmod m = x % m := Int.tmod_eq_emod_of_nonneg hr.1
    have e3 := Int.emod_nonneg x (show m ≠ 0 by omega)
    have e4 := Int.emod_lt_of_pos x (show 0 < m by omega)
    clear h hb hc
    go_enter Tryd.func28, Tryd.ntmps28
    go_wp2_with (go_at_call 57; refine (left_at k _ _ _ t _ h0 h1 (by omega)).mono ?_; rintro e w' ⟨rfl, r, rfl⟩)
    obtain ⟨w1, hw1⟩ : ∃ v, v = (w.drewN r).setCell ⟨k, 1, none⟩ (.int .i64 (t + 1)) := ⟨_, rfl⟩
    rw [← hw1]
    have g0 : w1.cell? ⟨k, 0, none⟩ = some (.slice (some ⟨b, o, none⟩) n c) := by rw [hw1]; go_simp
    have g1 : w1.cell? ⟨k, 1, none⟩ = some (.int .i64 (t + 1)) := by rw [hw1]; go_simp
    have gx : w1.cell? ⟨b, o + t, none⟩ = some (.int .u8 x) := by rw [hw1]; go_simp
    have gf : ∀ j, w1.frozen? ⟨k, j, none⟩ = false := fun j => by rw [hw1, World.frozen?_setCell]; exact H.out.free j
    have gg : w.grownBy w1 (some k) := by rw [hw1]; exact grown_trans (grown_drewN w r _) (grown_set _ k 1 _)
    have HG := hidden gg
    have HF := hidden gf
    have HW := hidden (show Cod W w1 k from ⟨hbase, H.out.bel.grown gg H.out.bel.size (by intro j hj; simp at hj; omega), gf, _, _, _, _, t + 1, HB.out, by omega, g0, g1⟩)
    clear h0 h1 hx hw1 hfr gg gf
    go_quiet (fail)
    go_wp2
    go_ret
    exact ⟨x % m, rfl, e3, e4, HW.out.below (drew_below ⟨_, rfl⟩), grown_trans HG.out (grown_drewN _ _ _)⟩
  · have H := hidden h
    clear h hb
    go_enter Tryd.func28, Tryd.ntmps28
    go_wp2_with (go_at_call 57; refine (left_at k _ _ _ t _ h0 h1 (by omega)).mono ?_; rintro e w' ⟨rfl, r, rfl⟩)
    go_ret
    exact ⟨0, rfl, by omega, by omega, H.out.below (drew_below ⟨_, rfl⟩), grown_drewN _ _ _⟩
end Go.Proofs.YtkniifopfgeopaaDoor

namespace Go.Proofs.YtkniifopfgeopaaDoor
open Go.RowKit
set_option linter.unusedVariables false

theorem Own.mono {w : World} {base base' : Nat} {e : TypeId} {v : Value} {xs : List Int} (h : Own w base e v xs) (hb : base' ≤ base) : Own w base' e v xs := by
  refine ⟨h.1, ?_⟩
  rcases h.2 with h1 | ⟨g, cap, cur, hv, hg, rest⟩
  · exact Or.inl h1
  · exact Or.inr ⟨g, cap, cur, hv, by omega, rest⟩
theorem Own.below {w w' : World} {base : Nat} {e : TypeId} {v : Value} {xs : List Int} (h : Own w base e v xs) (hb : Below w.heap.size w w') : Own w' base e v xs :=
  World.ownsRow.kept (row := none) h ⟨hb.os, hb.tape, hb.output, hb.size, fun i hi _ => hb.block i hi⟩ (by
    rcases hv : v.ownBlock with _ | b
    · exact Or.inl rfl
    · exact Or.inr (by simp))
end Go.Proofs.YtkniifopfgeopaaDoor

namespace Go.Proofs.YtkniifopfgeopaaDoor
open Go.RowKit Go.Shelf
set_option linter.unusedVariables false

/-- The contract of a function that is ranged over: it writes the block R alone, and what is new; a round keeps what lies below B. -/
def SeqSt {α : Type} (F : Fence) (n : Nat) (P : Program) (gf : Nat) (bnd : Array Value) (encs : α → Array Value) (R B N : Nat) (S : α → World → Prop) (T : List α → World → Prop) (w : World) : Prop :=
  ∀ (l : Nat) (J : List α → World → Prop) (W : World), Below w.heap.size w W → (∀ pre U U', J pre U → U.grownBy U' (some R) → J pre U') →
    (∀ pre x U, J pre U → S x U → pre.length < N → YieldAt F (n - 1) P l (encs x) U fun e U' => e = .returned (.bool true) ∧ J (pre ++ [x]) U' ∧ Below B U U') → J [] W →
    CallsIn F n P gf (bnd ++ #[.func (.yield l) #[] #[]]) W fun e W' => (∃ v, e = .returned v) ∧ ∃ xs, T xs W' ∧ J xs W'

/-- What is said stays while the block R is written, or a block that holds no cells. -/
def AbidesR {α : Type} (R Bd : Nat) (I : α → World → Prop) : Prop :=
  ∀ s U U' row, I s U → U.grownBy U' row → (∀ r, row = some r → r = R ∨ Bd ≤ r ∧ ∃ o : Obj, U.heap[r]? = some o ∧ o.isCells = false) → I s U'
/-- What is said stays while a block is written that holds no cells. -/
def AbidesN {α : Type} (Bd : Nat) (I : α → World → Prop) : Prop :=
  ∀ s U U' row, I s U → U.grownBy U' row → (∀ r, row = some r → Bd ≤ r ∧ ∃ o : Obj, U.heap[r]? = some o ∧ o.isCells = false) → I s U'
theorem AbidesR.n {α : Type} {R Bd : Nat} {I : α → World → Prop} (h : AbidesR R Bd I) : AbidesN Bd I := fun s U U' row hs hg hr => h s U U' row hs hg (fun r e => Or.inr (hr r e))
theorem AbidesN.alloc {α : Type} {Bd : Nat} {I : α → World → Prop} (h : AbidesN Bd I) {s : α} {U : World} (o : Obj) (hs : I s U) : I s (U.alloc o) := h s U _ none hs (World.grownBy_alloc U o none) (fun r e => by cases e)
theorem AbidesN.put {α : Type} {Bd : Nat} {I : α → World → Prop} (h : AbidesN Bd I) {s : α} {U : World} {l : Nat} {o : Obj} (o' : Obj) (hs : I s U) (hB : Bd ≤ l) (hl : U.heap[l]? = some o) (ho : o.isCells = false) : I s (U.putObj l o') :=
  h s U _ (some l) hs (grownBy_putObj' U l o') (fun r e => by cases e; exact ⟨hB, o, hl, ho⟩)

/-- How a round is left: the body has gone on, and what is no cells lies as it lay. -/
def roundSt {α : Type} (I : List α → World → Prop) (B : Nat) (xs : List α) (W : World) : Exit → Act → World → Prop
  | .normal, _, W' => KeepsOthers W W' ∧ Below B W W' ∧ I xs W'
  | _, _, _ => False

variable {F : Fence} {n : Nat} {P : Program}

theorem below_put {B : Nat} (W : World) (l : Nat) (o : Obj) (h : B ≤ l) (hB : B ≤ W.heap.size) : Below B W (W.putObj l o) :=
  (Below.refl B W).grown (grownBy_putObj' W l o) hB (fun k e => by cases e; exact h)

end Go.Proofs.YtkniifopfgeopaaDoor

namespace Go.Proofs.YtkniifopfgeopaaDoor
open Go.RowKit Go.Shelf
set_option linter.unusedVariables false

/-- What lies below B stays, but for the block X. -/
structure KeepX (X B : Nat) (w w' : World) : Prop where
  size : w.heap.size ≤ w'.heap.size
  block : ∀ k, k < B → k ≠ X → w'.heap[k]? = w.heap[k]?
theorem KeepX.refl (X B : Nat) (w : World) : KeepX X B w w := ⟨Nat.le_refl _, fun _ _ _ => rfl⟩
theorem KeepX.trans {X B : Nat} {a b c : World} (h : KeepX X B a b) (k : KeepX X B b c) : KeepX X B a c :=
  ⟨Nat.le_trans h.size k.size, fun j hj hx => (k.block j hj hx).trans (h.block j hj hx)⟩
theorem KeepX.of_below {X B : Nat} {a b : World} (h : Below B a b) : KeepX X B a b := ⟨h.size, fun j hj _ => h.block j hj⟩
theorem KeepX.setCell {X B : Nat} (w : World) (a : Addr) (v : Value) (h : a.block = X) : KeepX X B w (w.setCell a v) :=
  ⟨by simp, fun j _ hx => Below.heap_setCell w a v j (by rw [h]; exact hx)⟩
theorem KeepX.setRow {X B : Nat} (w : World) (cs : Array Value) : KeepX X B w (w.setRow X cs) :=
  ⟨by simp, fun j _ hx => setRow_other w X j cs hx⟩
/-- How a round is left: the body has gone on, and what is no cells lies as it lay. -/
def roundX {α : Type} (I : List α → World → Prop) (X B : Nat) (xs : List α) (W : World) : Exit → Act → World → Prop
  | .normal, _, W' => KeepsOthers W W' ∧ KeepX X B W W' ∧ I xs W'
  | _, _, _ => False

/-- The contract of a function that is ranged over: it writes the block R alone, and what is new; a round keeps what lies below B. -/
def SeqCl {α : Type} (F : Fence) (n : Nat) (P : Program) (gf : Nat) (lb : Array Value) (encs : α → Array Value) (R X B N : Nat) (S : α → World → Prop) (T : List α → World → Prop) (w : World) : Prop :=
  ∀ (l : Nat) (J : List α → World → Prop) (W : World), Below w.heap.size w W → (∀ pre U U', J pre U → U.grownBy U' (some R) → J pre U') →
    (∀ pre x U, J pre U → S x U → pre.length < N → YieldAt F (n - 1) P l (encs x) U fun e U' => e = .returned (.bool true) ∧ J (pre ++ [x]) U' ∧ KeepX X B U U') → J [] W →
    CallsIn F n P gf (#[.func (.yield l) #[] #[]] ++ lb) W fun e W' => (∃ v, e = .returned v) ∧ ∃ xs, T xs W' ∧ J xs W'

variable {F : Fence} {n : Nat} {P : Program}

set_option maxHeartbeats 800000 in
/-- The statement's law. -/
theorem wpIn_rangeFunc_cl {α : Type} {g : Operand} {ps : Array Tmp} {assign body : Code} {Q : Exit → Act → World → Prop} {a : Act} {w : World}
    (hro : F.round = none) (h1 : 1 ≤ n) {gf : Nat} {lb : Array Value} (hg : a.eval g = .func (.func gf) #[] lb) (hF : F.fn gf) (eg : ∀ args w, (callFunc gf args).run P w = .ok (.enter gf args) w)
    {encs : α → Array Value} (hps : ∀ x, (encs x).size = ps.size) {R X B N : Nat} {S : α → World → Prop} {T : List α → World → Prop} (hseq : SeqCl F (n - 1) P gf lb encs R X B N S T w)
    (hR : R < w.heap.size) (hB : B ≤ w.heap.size) (hS : AbidesN w.heap.size S) (hT : AbidesN w.heap.size T) (I : List α → World → Prop) (hI : AbidesR R w.heap.size I) (h0 : I [] w) (aa : α → Act)
    (hassign : ∀ (l : Nat) (x : α) (U : World) (K : Act → World → Prop), K (aa x) U →
      assign.wpIn (F.inRound l) (n - 1 - 1) P (Exit.then K (fun _ _ _ => False)) { tmps := (ps.zip (encs x)).foldl (fun t (p, v) => t.setIfInBounds p v) a.tmps, defers := [] } U)
    (hbody : ∀ (l : Nat) (pre : List α) (x : α) (U2 : World), I pre U2 → S x U2 → pre.length < N → w.heap.size ≤ U2.heap.size → body.wpIn (F.inRound l) (n - 1 - 1) P (roundX I X B (pre ++ [x]) U2) (aa x) U2)
    (hdone : ∀ (D : Nat) (xs : List α) (W : World), w.heap.size ≤ D → T xs W → I xs W → W.heap[D]? = some (.deferred (some [])) → Q .normal { a with defers := { target := .collected D, args := #[] } :: a.defers } W) :
    (Code.rangeFunc g ps assign body).wpIn F n P Q a w := by
  refine wpIn_rangeFunc ?_
  intro fn hfn
  rw [hro]
  obtain ⟨rec, hrec⟩ : ∃ rec : LoopState → Loop, rec = fun st => { state := st, pending := none, fn, tmps := a.tmps, params := ps, assign, body, defers := w.heap.size } := ⟨_, rfl⟩
  obtain ⟨W1, hW1⟩ : ∃ W1, (w.alloc (.deferred (some []))).alloc (.loop (rec .ready)) = W1 := ⟨_, rfl⟩
  have e1 : (w.alloc (.deferred (some []))).heap.size = w.heap.size + 1 := World.size_alloc _ _
  have hL1 : W1.heap[w.heap.size + 1]? = some (.loop (rec .ready)) := by
    rw [← hW1, ← e1]
    exact World.alloc_heap_new _ _
  have hK1 : W1.heap[w.heap.size]? = some (.deferred (some [])) := by
    rw [← hW1]
    exact (Below.heap_alloc _ _ _ (by simp)).trans (World.alloc_heap_new w _)
  have hI1 : I [] W1 := by
    rw [← hW1]
    exact hI.n.alloc _ (hI.n.alloc _ h0)
  have hb1 : Below w.heap.size w W1 := by
    rw [← hW1]
    exact ((Below.refl _ w).alloc (Nat.le_refl _) _).alloc (by simp) _
  refine ⟨w.heap.size + 1, [{ target := .collected w.heap.size, args := #[] }], W1, { target := .fn (.func gf) lb, args := #[.func (.yield (w.heap.size + 1)) #[] #[]] }, W1, gf,
    #[.func (.yield (w.heap.size + 1)) #[] #[]] ++ lb, W1, ?_, ?_, ?_, ?_, fun _ => h1, ?_⟩
  · rw [← hW1, hrec]
    exact run_enterLoop_outer _ _ _ _ _
  · simp only [resolve, hg]
    simp [go_sem]
  · intro f' hf'
    simp [Target.leads] at hf'
    subst hf'
    exact hF
  · simp [invoke, go_sem, eg]
  · refine (hseq (w.heap.size + 1) (fun pre U => I pre U ∧ U.heap[w.heap.size + 1]? = some (.loop (rec .ready)) ∧ U.heap[w.heap.size]? = some (.deferred (some []))) W1 hb1 ?_ ?_ ⟨hI1, hL1, hK1⟩).mono ?_
    · rintro pre U U' ⟨hi, hl, hk⟩ hgr
      have hlt := (Array.getElem?_eq_some_iff.1 hl).1
      exact ⟨hI pre U U' _ hi hgr (fun r e => by cases e; exact Or.inl rfl), (hgr.block _ hlt (by simp; omega)).trans hl, (hgr.block _ (by omega) (by simp; omega)).trans hk⟩
    · rintro pre x U ⟨hi, hl, hk⟩ hs hN
      have hlt := (Array.getElem?_eq_some_iff.1 hl).1
      have hy := run_yield (P := P) (args := encs x) hl (by rw [hrec]; exact hps x)
      rw [hrec] at hy
      have hl' := hl
      have hk' := hk
      refine ⟨fn, _, assign, body, hy, roundIn_of_wpIn hfn (hassign _ x U _ ⟨_, run_beginRound hl' (by rw [hrec]), ?_⟩)⟩
      obtain ⟨U2, hU2⟩ : ∃ U2, U.putObj (w.heap.size + 1) (.loop { rec .ready with state := .busy }) = U2 := ⟨_, rfl⟩
      have hl2 : U2.heap[w.heap.size + 1]? = some (.loop (rec .busy)) := by
        rw [← hU2, World.putObj_heap_same (by omega), hrec]
      have hk2 : U2.heap[w.heap.size]? = some (.deferred (some [])) := by
        rw [← hU2]
        exact (World.putObj_heap_other (by omega)).trans hk'
      have hi2 : I pre U2 := by
        rw [← hU2]
        exact hI.n.put _ hi (by omega) hl' rfl
      have hs2 : S x U2 := by
        rw [← hU2]
        exact hS.put _ hs (by omega) hl' rfl
      have hb2 : KeepX X B U U2 := by
        rw [← hU2]
        exact KeepX.of_below (below_put U _ _ (by omega) (by omega))
      rw [hU2]
      refine wpIn_mono (hbody _ pre x U2 hi2 hs2 hN (by rw [← hU2]; simp; omega)) ?_
      rintro e a3 W3 hp
      cases e with
      | normal =>
        obtain ⟨hk3, hb3, hi3⟩ := hp
        have hl3 := hk3.same _ _ hl2 rfl
        have hr := run_endRound (P := P) none hl3
        have hlt3 := (Array.getElem?_eq_some_iff.1 hl3).1
        refine ⟨_, _, hr, rfl, ⟨hI.n.put _ hi3 (by omega) hl3 rfl, ?_, ?_⟩, hb2.trans (hb3.trans (KeepX.of_below (below_put _ _ _ (by omega) (by have := hb3.size; omega))))⟩
        · rw [World.putObj_heap_same hlt3, hrec]
          rfl
        · exact (World.putObj_heap_other (by omega)).trans (hk3.same _ _ hk2 rfl)
      | ret => exact hp.elim
      | exit id => exact hp.elim
      | goto t => exact hp.elim
      | panic ch => exact hp.elim
      | outgrown => exact hp.elim
    · rintro e W2 ⟨⟨v, rfl⟩, xs, ht, hi, hl, hk⟩
      have := run_endLoop (P := P) hl (by rw [hrec]; simp)
      rw [hrec] at this hl
      exact ⟨none, _, this, hdone _ xs _ (Nat.le_refl _) (hT.put _ ht (by omega) hl rfl) (hI.n.put _ hi (by omega) hl rfl) ((World.putObj_heap_other (by omega)).trans hk)⟩
end Go.Proofs.YtkniifopfgeopaaDoor

namespace Go.Proofs.YtkniifopfgeopaaDoor
open Go.RowKit

theorem zeros_list (n : Nat) : (Builtin.zeroCells (Value.int IntKind.u8 0).cells n).toList = (List.replicate n (0 : Int)).map (Value.int .u8) := by
  simp [Builtin.zeroCells, Value.cells]
  apply List.ext_getElem
  · simp
  · intro j h1 h2
    simp [Nat.mod_one]

section
variable {P : Program} (w : World)
end
end Go.Proofs.YtkniifopfgeopaaDoor
