/-
  Growing slices of bytes, whatever the program: append, make and copy on a row that the call owns, the bytes told by a list of numbers.
  A row of bytes of the call's own: seen from an earlier place, and in a later world.
  What the program knows of bytes, and a row of the call's own that was just made.
  What wire.Number returns, for every slice of bytes, place and width.
  Rows of structures of the call's own, whatever the program: elements of a fixed number of cells, with memory of their own behind them.
  What package selector's questions on addresses and selectors answer.
  A selector that lies in a block of the call's own; a range of ports there; returning them.
  What slices.Clone of bytes returns: bytes of the call's own that are those of the argument.
-/
import Derived.Test.YtnbkffehhahckaaGreatJZ0
import Derived.Test.YtnbkffehhahckaaGreatRows
import Derived.Test.YtnbkffehhahckaaGreatJNum
import Derived.Laws.CopyOwn
import Derived.Deep.QuietTactic
import Derived.BigQuiet
namespace Go.Proofs.YtnbkffehhahckaaGreat
open Go.RowKit
def Own (w : World) (base : Nat) (e : TypeId) (v : Value) (xs : List Int) : Prop := w.ownsRow base e 1 v xs.length (xs.map (Value.int .u8))
theorem Own.nil (w : World) (base : Nat) (e : TypeId) : Own w base e (.slice none 0 0) [] := World.ownsRow_nil w base e 1
theorem Own.alloc {w : World} {base : Nat} {e : TypeId} {v : Value} {xs : List Int} (h : Own w base e v xs) (o : Obj) : Own (w.alloc o) base e v xs := World.ownsRow.alloc h o
theorem Own.drew {w : World} {base : Nat} {e : TypeId} {v : Value} {xs : List Int} (h : Own w base e v xs) : Own w.drew base e v xs := h
theorem Own.byt {w : World} {base : Nat} {e : TypeId} {v : Value} {xs : List Int} (h : Own w base e v xs) (hr : ∀ x ∈ xs, 0 ≤ x ∧ x ≤ 255) : ∃ p c, v = .slice p xs.length c ∧ Byt w p xs.length c xs := Byt.of_own h hr
theorem Own.bytN {w : World} {base : Nat} {e : TypeId} {v : Value} {xs us : List Int} {N : Nat} (h : Own w base e v xs) (hu : xs = us) (hN : us.length = N) (hr : ∀ x ∈ us, 0 ≤ x ∧ x ≤ 255) : ∃ p c, v = .slice p N c ∧ Byt w p N c us := by
  subst hu
  subst hN
  exact h.byt hr
theorem Own.lt {w : World} {base : Nat} {e : TypeId} {v : Value} {xs : List Int} (h : Own w base e v xs) : ∀ k, v.ownBlock = some k → base ≤ k ∧ k < w.heap.size := World.ownsRow.lt h
theorem Own.at_ {w : World} {base : Nat} {e : TypeId} {v : Value} {xs : List Int} (h : Own w base e v xs) {n : Nat} (hn : xs.length = n) (hp : 0 < n) :
    ∃ g c, v = .slice (some ⟨g, 0, none⟩) n c ∧ base ≤ g ∧ g < w.heap.size ∧ (∀ j, j < n → w.cell? ⟨g, j, none⟩ = some (.int .u8 (xs.getD j 0))) ∧ (∀ j, w.frozen? ⟨g, j, none⟩ = false) := by
  subst hn
  have h0 := h
  rcases h.2 with ⟨rfl, hz⟩ | ⟨g, cap, cur, rfl, hb, hh, hn, hc, hs, ht⟩
  · omega
  · refine ⟨g, cap, rfl, hb, (Array.getElem?_eq_some_iff.1 hh).1, fun j hj => ?_, fun j => World.ownsRow.frozenAt h0 j⟩
    rw [World.ownsRow.cellAt h0 j (by omega)]
    simp [List.getD_eq_getElem?_getD, List.getElem?_eq_getElem hj]
theorem Own.set {w : World} {base : Nat} {e : TypeId} {g n c : Nat} {xs : List Int} (h : Own w base e (.slice (some ⟨g, 0, none⟩) n c) xs) (hn : xs.length = n) (j : Nat) (x : Int) :
    Own (w.setCell ⟨g, j, none⟩ (.int .u8 x)) base e (.slice (some ⟨g, 0, none⟩) n c) (xs.set j x) := by
  subst hn
  have := (World.ownsRow.stored h j (.int .u8 x)).1
  unfold Own
  rw [List.length_set, List.map_set]
  exact this
theorem Own.form {w : World} {base : Nat} {e : TypeId} {v : Value} {xs : List Int} (h : Own w base e v xs) : ∃ p c, v = .slice p xs.length c := by
  rcases h.2 with ⟨rfl, hn⟩ | ⟨g, cap, cur, rfl, _⟩
  · exact ⟨none, 0, by rw [hn]⟩
  · exact ⟨_, _, rfl⟩
section
variable {P : Program} (w : World)
theorem run_append_byt (base : Nat) (t ty e : TypeId) (i : TypeInfo) (z : Value) (ht : P.underlying t = some (.slice e)) (hi : P.info? e = some i) (hz : i.zero = some z)
    (hsize : i.size = 1) (hby : i.bytes = 1) (hzs : z.cells.size = 1) (v : Value) (xs : List Int) (hown : Own w base e v xs)
    (p : Option Addr) (m c : Nat) (ys : List Int) (hy : Byt w p m c ys) (hb : xs.length + m ≤ 140737488355328) (hbase : base ≤ w.heap.size) :
    ∃ v' w', (Builtin.append_ #[t, t] ty #[v, .slice p m c]).run P w = .ok v' w' ∧ Own w' base e v' (xs ++ ys) ∧ w.grownBy w' v.ownBlock := by
  have hl := hy.len
  cases p with
  | none =>
    have hm : m = 0 := by
      rcases Nat.eq_zero_or_pos m with h0 | h0
      · exact h0
      · obtain ⟨b, o, h, _⟩ := hy.at_ h0
        cases h
    subst hm
    obtain rfl : ys = [] := List.eq_nil_of_length_eq_zero hl
    refine ⟨v, w, ?_, by rw [List.append_nil]; exact hown, World.grownBy.refl w _⟩
    rcases hown.2 with ⟨rfl, hx⟩ | ⟨g, cap, cur, rfl, _, _, hnc, _⟩
    · simp [Builtin.append_, run_underlying ht, sizeOf, typeInfo, hi, Builtin.lenOf, Builtin.firstCells]
    · simp [Builtin.append_, run_underlying ht, sizeOf, typeInfo, hi, Builtin.lenOf, Builtin.firstCells, hnc, storeCells]
  | some a =>
    obtain ⟨v', w', hr, h2, h3, _⟩ := run_append_own (P := P) w base t ty e i z 1 1 ht hi hz hsize hby hzs (by decide) v xs.length (xs.map (Value.int .u8)) hown a m c (ys.map (Value.int .u8)) (by simp [hl])
      (fun j u hj => hy.src j u hj) (u8_one ys) (by unfold maxLen; omega) (by omega) hbase
    refine ⟨v', w', hr, ?_, h3⟩
    unfold Own
    rw [List.length_append, List.map_append, hl]
    exact h2
theorem wp_append_byt {o : Oper} {a : Act} {K : Act → World → Prop} {Q : Exit → Act → World → Prop} (s x : Operand) (t : TypeId)
    (ho : o.op = .call { callee := .builtin .append, args := #[s, x], argTypes := #[t, t] })
    (base : Nat) (e : TypeId) (i : TypeInfo) (z : Value) (ht : P.underlying t = some (.slice e)) (hi : P.info? e = some i) (hz : i.zero = some z)
    (hsize : i.size = 1) (hby : i.bytes = 1) (hzs : z.cells.size = 1) (v : Value) (xs : List Int) (hs : a.eval s = v) (hown : Own w base e v xs)
    (p : Option Addr) (m c m' : Nat) (ys : List Int) (hx : a.eval x = .slice p m c) (hy : Byt w p m' c ys) (hm : m = m') (hb : xs.length + m ≤ 140737488355328) (hbase : base ≤ w.heap.size)
    (h : ∀ v' w', Own w' base e v' (xs ++ ys) → w.grownBy w' v.ownBlock → K (a.put o.dst v') w') : o.wp P a w K Q := by
  subst hm
  obtain ⟨v', w', hr, h2, h3⟩ := run_append_byt (P := P) w base t o.type e i z ht hi hz hsize hby hzs v xs hown p m c ys hy hb hbase
  unfold Oper.wp execOp
  simp only [ho, resolve, invoke, builtin, Sem.run_bind, Sem.run_pure, Result.andThen_ok, List.map_toArray, List.map_cons, List.map_nil, hs, hx, hr]
  exact h v' w' h2 h3
theorem wpList_append_byt {ops : Array Oper} {rest : List Oper} {o : Oper} {a : Act} {Q : Exit → Act → World → Prop} (hw : Region.wanted o (yielded ops a.tmps) = true) (s x : Operand) (t : TypeId)
    (ho : o.op = .call { callee := .builtin .append, args := #[s, x], argTypes := #[t, t] })
    (base : Nat) (e : TypeId) (i : TypeInfo) (z : Value) (ht : P.underlying t = some (.slice e)) (hi : P.info? e = some i) (hz : i.zero = some z)
    (hsize : i.size = 1) (hby : i.bytes = 1) (hzs : z.cells.size = 1) (v : Value) (xs : List Int) (hs : a.eval s = v) (hown : Own w base e v xs)
    (p : Option Addr) (m c m' : Nat) (ys : List Int) (hx : a.eval x = .slice p m c) (hy : Byt w p m' c ys) (hm : m = m') (hb : xs.length + m ≤ 140737488355328) (hbase : base ≤ w.heap.size)
    (h : ∀ v' w', Own w' base e v' (xs ++ ys) → w.grownBy w' v.ownBlock → wpList P ops Q rest (a.put o.dst v') w') : wpList P ops Q (o :: rest) a w := by
  refine wpList_step fun K hK => ?_
  rw [if_pos hw]
  exact wp_append_byt w s x t ho base e i z ht hi hz hsize hby hzs v xs hs hown p m c m' ys hx hy hm hb hbase fun v' w' h2 h3 => hK _ _ (h v' w' h2 h3)
theorem step_append_byt {ops : Array Oper} {o : Oper} {a : Act} {K : Act → World → Prop} {Q : Exit → Act → World → Prop} {E : Prop} (hw : Region.wanted o (yielded ops a.tmps) = true) (s x : Operand) (t : TypeId)
    (ho : o.op = .call { callee := .builtin .append, args := #[s, x], argTypes := #[t, t] })
    (base : Nat) (e : TypeId) (i : TypeInfo) (z : Value) (ht : P.underlying t = some (.slice e)) (hi : P.info? e = some i) (hz : i.zero = some z)
    (hsize : i.size = 1) (hby : i.bytes = 1) (hzs : z.cells.size = 1) (v : Value) (xs : List Int) (hs : a.eval s = v) (hown : Own w base e v xs)
    (p : Option Addr) (m c m' : Nat) (ys : List Int) (hx : a.eval x = .slice p m c) (hy : Byt w p m' c ys) (hm : m = m') (hb : xs.length + m ≤ 140737488355328) (hbase : base ≤ w.heap.size)
    (h : ∀ v' w', Own w' base e v' (xs ++ ys) → w.grownBy w' v.ownBlock → K (a.put o.dst v') w') :
    if Region.wanted o (yielded ops a.tmps) = true then Oper.wp P o a w K Q else E := by
  rw [if_pos hw]
  exact wp_append_byt w s x t ho base e i z ht hi hz hsize hby hzs v xs hs hown p m c m' ys hx hy hm hb hbase h
theorem one_byte (b : Nat) (x : Int) (hx : 0 ≤ x ∧ x ≤ 255) (hc : w.cell? ⟨b, 0, none⟩ = some (.int .u8 x)) : Byt w (some ⟨b, 0, none⟩) 1 1 [x] :=
  ⟨rfl, Nat.le_refl _, by unfold maxLen; omega, fun y hy => by simp at hy; omega, fun _ => ⟨b, 0, rfl, fun i hi => by
    obtain rfl : i = 0 := by simp at hi; omega
    exact hc⟩⟩
theorem wpList_make_byt {ops : Array Oper} {rest : List Oper} {o : Oper} {a : Act} {Q : Exit → Act → World → Prop} (hgd : o.guard = none) (l c : Operand) (t : TypeId) (hop : o.op = Op.makeSlice t l c)
    (base : Nat) (e : TypeId) (i : TypeInfo) (ht : P.underlying t = some (.slice e)) (hi : P.info? e = some i) (hz : i.zero = some (.int .u8 0)) (hsize : i.size = 1) (hby : i.bytes = 1)
    (kl kc : IntKind) (L C : Int) (n m : Nat) (hl : a.eval l = .int kl L) (hc : a.eval c = .int kc C) (hL : L = (n : Int)) (hC : C = (m : Int)) (hnm : n ≤ m) (hb : m ≤ 281474976710656) (hbase : base ≤ w.heap.size)
    (hK : ∀ w', Own w' base e (.slice (some ⟨w.heap.size, 0, none⟩) n m) (List.replicate n 0) → w.grownBy w' none → wpList P ops Q rest (a.put o.dst (.slice (some ⟨w.heap.size, 0, none⟩) n m)) w') :
    wpList P ops Q (o :: rest) a w := by
  refine wpList_plain hgd fun K hK' => ?_
  subst hL hC
  have hr := run_make (P := P) w t e i (.int .u8 0) ht hi hz kl kc n m (by omega) (by omega) (by rw [hby]; omega) (by omega)
  simp only [Int.toNat_natCast, hsize, Nat.mul_one] at hr
  unfold Oper.wp
  simp [execOp, hop, hl, hc, hr, Result.andThen]
  refine hK' _ _ (hK _ ⟨by simp, .inr ⟨w.heap.size, m, _, by simp, hbase, heap_alloc_new w _, by simpa using hnm, by unfold maxLen; omega, by simp [size_madeCells], ?_⟩⟩ (World.grownBy_alloc w _ none))
  rw [show (Value.int IntKind.u8 0).cells = #[.int .u8 0] from rfl, toList_madeCells_one]
  simp [List.take_replicate, Nat.min_eq_left hnm]
theorem wpList_copy_byt {ops : Array Oper} {rest : List Oper} {o : Oper} {a : Act} {Q : Exit → Act → World → Prop} (hgd : o.guard = none) (d s : Operand) (t : TypeId)
    (ho : o.op = .call { callee := .builtin .copy, args := #[d, s], argTypes := #[t, t] }) (base : Nat) (e : TypeId) (ht : P.underlying t = some (.slice e)) (hsz : (P.info? e).map (·.size) = some 1)
    (g n m : Nat) (zs : List Int) (hd : a.eval d = .slice (some ⟨g, 0, none⟩) n m) (hzn : zs.length = n) (hown : Own w base e (.slice (some ⟨g, 0, none⟩) n m) zs)
    (p : Option Addr) (c : Nat) (ys : List Int) (hs : a.eval s = .slice p n c) (hy : Byt w p n c ys)
    (h : ∀ w', Own w' base e (.slice (some ⟨g, 0, none⟩) n m) ys → w.grownBy w' (some g) → wpList P ops Q rest (a.put o.dst (goInt n)) w') : wpList P ops Q (o :: rest) a w := by
  have hlen := hy.len
  subst hzn
  rcases Nat.eq_zero_or_pos zs.length with h0 | h0
  · refine wpList_copy_nothing hgd d s t t ho e ht hsz _ _ _ _ _ _ hd hs (by simp [h0]) ?_
    have e1 : ys = zs := by rw [List.eq_nil_of_length_eq_zero h0, List.eq_nil_of_length_eq_zero (hlen.trans h0)]
    have := h w (by rw [e1]; exact hown) (World.grownBy.refl w _)
    rw [h0] at this
    exact this
  · obtain ⟨b, off, rfl, hc⟩ := hy.at_ h0
    rcases hown.2 with ⟨hv, _⟩ | ⟨g', cap, cur, hv, hg, hh, hn, hm, hcs, htk⟩
    · simp at hv
    simp only [Value.slice.injEq, Option.some.injEq, Addr.mk.injEq, and_true, true_and] at hv
    obtain ⟨rfl, rfl⟩ := hv
    refine wpList_copy_own hgd d s t t ho e ht hsz g 0 _ _ _ _ _ hd hs cur e hh (ys.map (Value.int .u8)) (by simp [hlen]) (fun j u hj => hy.src j u hj) (by simp [hlen, hcs]; omega) (u8_one ys) ?_
    have := h (w.setRow g (cur.toList.take 0 ++ (ys.map (Value.int .u8) ++ cur.toList.drop (0 + (ys.map (Value.int .u8)).length))).toArray)
      ⟨by simp, .inr ⟨g, m, _, by rw [hlen], hg, setRow_heap w g _ _ e _ hh, by omega, hm, by simp [hlen, hcs]; omega, by simp⟩⟩
      ⟨rfl, rfl, rfl, by simp, fun k hk hne => setRow_other w g k _ (fun e => hne (by rw [e]))⟩
    simpa [hlen] using this
end
end Go.Proofs.YtnbkffehhahckaaGreat

namespace Go.Proofs.YtnbkffehhahckaaGreat
open Go.RowKit
set_option linter.unusedVariables false
theorem Own.mono {w : World} {base base' : Nat} {e : TypeId} {v : Value} {xs : List Int} (h : Own w base e v xs) (hb : base' ≤ base) : Own w base' e v xs := by
  refine ⟨h.1, ?_⟩
  rcases h.2 with h1 | ⟨g, cap, cur, hv, hg, rest⟩
  · exact Or.inl h1
  · exact Or.inr ⟨g, cap, cur, hv, by omega, rest⟩
theorem Own.below {w w' : World} {base : Nat} {e : TypeId} {v : Value} {xs : List Int} (h : Own w base e v xs) (hb : Below w.heap.size w w') : Own w' base e v xs :=
  World.ownsRow.kept (row := none) h ⟨hb.os, hb.tape, hb.output, hb.size, fun i hi _ => hb.block i hi⟩ (by
    rcases hv : v.ownBlock with _ | b
    · exact Or.inl rfl
    · exact Or.inr (by simp))
end Go.Proofs.YtnbkffehhahckaaGreat

namespace Go.Proofs.YtnbkffehhahckaaGreat
open Go.RowKit
set_option linter.unusedVariables false
theorem Tryz.infoByte : (Tryz.prog.info? 5).map (fun i => (i.zero, i.size, i.bytes)) = some (some (.int .u8 0), 1, 1) := by kernel_rfl
theorem Tryz.sizeByte : (Tryz.prog.info? 5).map (·.size) = some 1 := by kernel_rfl
theorem Own.made (w : World) (base : Nat) (e : TypeId) (hb : base ≤ w.heap.size) : Own (w.alloc (.cells #[] e)) base e (.slice (some ⟨w.heap.size, 0, none⟩) 0 0) [] :=
  World.ownsRow_made w #[] 0 hb (Nat.zero_le _) rfl
end Go.Proofs.YtnbkffehhahckaaGreat

namespace Go.Proofs.YtnbkffehhahckaaGreat
open Go.RowKit
set_option linter.unusedVariables false
theorem isWidth_yes (v : Int) (w : World) (h1 : 1 ≤ v) (h8 : v ≤ 8) : Calls Tryz.prog 49 #[.int .i64 v] w fun e w' => e = .returned (.bool true) ∧ w = w' := by
  go_enter Tryz.func49, Tryz.ntmps49
  go_wp2
  go_ret
  exact ⟨by simp <;> omega, rfl⟩
theorem isWidth_no (v : Int) (w : World) (h : v < 1 ∨ 8 < v) : Calls Tryz.prog 49 #[.int .i64 v] w fun e w' => e = .returned (.bool false) ∧ w = w' := by
  go_enter Tryz.func49, Tryz.ntmps49
  go_wp2
  all_goals go_ret
  all_goals exact ⟨by simp <;> omega, rfl⟩
theorem inside_yes (p : Option Addr) (n c : Nat) (a k : Int) (w : World) (hn : n ≤ 9223372036854775807) (h1 : 0 ≤ a) (h2 : 0 ≤ k) (h3 : k ≤ n - a) :
    Calls Tryz.prog 72 #[.slice p n c, .int .i64 a, .int .i64 k] w fun e w' => e = .returned (.bool true) ∧ w = w' := by
  go_enter Tryz.func72, Tryz.ntmps72
  go_wp2
  go_ret
  exact ⟨by simp <;> omega, rfl⟩
theorem inside_no (p : Option Addr) (n c : Nat) (a k : Int) (w : World) (hn : n ≤ 9223372036854775807) (ha : a ≤ 9223372036854775807) (h : a < 0 ∨ k < 0 ∨ n - a < k) :
    Calls Tryz.prog 72 #[.slice p n c, .int .i64 a, .int .i64 k] w fun e w' => e = .returned (.bool false) ∧ w = w' := by
  by_cases h1 : 0 ≤ a
  · by_cases h2 : 0 ≤ k
    · have h3 : (n : Int) - a < k := by omega
      go_enter Tryz.func72, Tryz.ntmps72
      go_wp2
      all_goals go_ret
      all_goals exact ⟨by simp <;> omega, rfl⟩
    · go_enter Tryz.func72, Tryz.ntmps72
      go_wp2
      all_goals go_ret
      all_goals exact ⟨by simp <;> omega, rfl⟩
  · go_enter Tryz.func72, Tryz.ntmps72
    go_wp2
    all_goals go_ret
    all_goals exact ⟨by simp <;> omega, rfl⟩
set_option maxHeartbeats 400000 in
theorem number_yes (p : Option Addr) (n c : Nat) (xs : List Int) (w : World) (h : Byt w p n c xs) (a k : Nat) (h1 : 1 ≤ k) (h8 : k ≤ 8) (hin : a + k ≤ n) :
    Calls Tryz.prog 54 #[.slice p n c, .int .i64 a, .int .i64 k] w fun e w' => e = .returned (.tuple #[.int .u64 (val ((xs.drop a).take k)), .bool true]) ∧ w = w' := by
  have hn := h.le
  have hcap := h.cap
  obtain ⟨b, o, rfl, hc⟩ := h.at_ (by omega)
  have hl : ((xs.drop a).take k).length = k := by have := h.len; simp; omega
  have hr : ∀ x ∈ (xs.drop a).take k, 0 ≤ x ∧ x ≤ 255 := rng_take (rng_drop h.rng _) _
  have hcc : ∀ j, j < k → w.cell? ⟨b, o + a + j, none⟩ = some (.int .u8 (((xs.drop a).take k).getD j 0)) := fun j hj => by
    rw [Nat.add_assoc, hc (a + j) (by omega)]
    simp [List.getD_eq_getElem?_getD, List.getElem?_take_of_lt hj]
  generalize (xs.drop a).take k = ys at hl hr hcc
  clear hc h
  go_enter Tryz.func54, Tryz.ntmps54
  go_wp2_with (first | (go_at_call 49; refine (isWidth_yes _ _ (by omega) (by omega)).mono ?_; rintro e w' ⟨rfl, rfl⟩) | (go_at_call 72; refine (inside_yes _ _ _ _ _ _ (by omega) (by omega) (by omega) (by omega)).mono ?_; rintro e w' ⟨rfl, rfl⟩))
  go_loop [8, 10, 28] (fun v x i => ∃ j : Nat, j ≤ k ∧ i = .int .i64 j ∧ v = .int .u64 (val (ys.take j))) (fun _ _ i => k - (intOf i).toNat)
  case atStart => exact ⟨0, by omega, rfl, rfl⟩
  case round =>
    obtain ⟨j, hj, rfl, rfl⟩ := hrel
    by_cases hlt : j < k
    · have hcell := hcc j hlt
      have hb := rng_getD hr j
      have hv := val_56 (ys.take j) (rng_take hr j) (by simp; omega)
      have hs := hidden (val_step ys j (by omega))
      have ho := or_byte (val (ys.take j)) (ys.getD j 0) hv.1 hv.2 hb.1 hb.2
      generalize val (ys.take j) = v at *
      generalize ys.getD j 0 = x at *
      clear hcc hr hl
      go_wp2
      go_round
      case rel => exact ⟨j + 1, by omega, by go_num, by rw [hs.out]⟩
      case measure => simp [intOf]; omega
    · obtain rfl : j = k := by omega
      have hy : ys.take j = ys := List.take_of_length_le (by omega)
      clear hcc hr
      go_wp2
      go_ret2
      exact ⟨rfl, rfl⟩
set_option maxHeartbeats 400000 in
theorem number_any (p : Option Addr) (n c : Nat) (xs : List Int) (w : World) (h : Byt w p n c xs) (a k : Int) (ha : -9223372036854775808 ≤ a ∧ a ≤ 9223372036854775807) (hk : -9223372036854775808 ≤ k ∧ k ≤ 9223372036854775807) :
    Calls Tryz.prog 54 #[.slice p n c, .int .i64 a, .int .i64 k] w fun e w' => e = .returned (.tuple #[.int .u64 (numR xs a k).1, .bool (numR xs a k).2]) ∧ w = w' := by
  have hn := h.le
  by_cases hw : 1 ≤ k ∧ k ≤ 8
  · by_cases hi : 0 ≤ a ∧ a + k ≤ n
    · obtain ⟨a, rfl⟩ := Int.eq_ofNat_of_zero_le hi.1
      obtain ⟨k, rfl⟩ := Int.eq_ofNat_of_zero_le (show 0 ≤ k by omega)
      have := number_yes p n c xs w h a k (by omega) (by omega) (by omega)
      rw [numR, if_pos (by have := h.len; omega)]
      exact this
    · rw [numR, if_neg (by have := h.len; omega)]
      clear h
      go_enter Tryz.func54, Tryz.ntmps54
      go_wp2_with (first | (go_at_call 49; refine (isWidth_yes _ _ (by omega) (by omega)).mono ?_; rintro e w' ⟨rfl, rfl⟩) | (go_at_call 72; refine (inside_no _ _ _ _ _ _ (by omega) (by omega) (by omega)).mono ?_; rintro e w' ⟨rfl, rfl⟩))
      go_ret2
      exact ⟨rfl, rfl⟩
  · rw [numR, if_neg (by omega)]
    clear h
    go_enter Tryz.func54, Tryz.ntmps54
    go_wp2_with (first | (go_at_call 49; refine (isWidth_no _ _ (by omega)).mono ?_; rintro e w' ⟨rfl, rfl⟩))
    go_ret2
    exact ⟨rfl, rfl⟩
end Go.Proofs.YtnbkffehhahckaaGreat

namespace Go.Proofs.YtnbkffehhahckaaGreat
open Go.RowKit
set_option linter.unusedVariables false
structure KindR (α : Type) where
  e : TypeId
  k : Nat
  cs : α → List Value
  len : ∀ x, (cs x).length = k
  one : ∀ x, ∀ u ∈ cs x, u.oneCell' = true
  pos : 0 < k
section
variable {α : Type} (K : KindR α)
def KindR.row (l : List α) : List Value := l.flatMap K.cs
theorem KindR.row_cons (x : α) (l : List α) : K.row (x :: l) = K.cs x ++ K.row l := rfl
theorem KindR.row_append (l r : List α) : K.row (l ++ r) = K.row l ++ K.row r := by simp [KindR.row]
theorem KindR.row_len (l : List α) : (K.row l).length = l.length * K.k := by
  induction l with
  | nil => simp [KindR.row]
  | cons x l ih => rw [K.row_cons, List.length_append, K.len, ih, List.length_cons, Nat.add_mul]; omega
theorem KindR.row_one (l : List α) : ∀ u ∈ K.row l, u.oneCell' = true := by
  intro u hu
  obtain ⟨x, _, h⟩ := List.mem_flatMap.1 hu
  exact K.one x u h
theorem KindR.row_get (l : List α) (j : Nat) (hj : j < l.length) (i : Nat) (u : Value) (hu : (K.cs l[j])[i]? = some u) : (K.row l)[j * K.k + i]? = some u := by
  induction l generalizing j with
  | nil => simp at hj
  | cons x l ih =>
    have hi : i < K.k := by have := (List.getElem?_eq_some_iff.1 hu).1; rw [K.len] at this; exact this
    rw [K.row_cons]
    cases j with
    | zero =>
      rw [Nat.zero_mul, Nat.zero_add, List.getElem?_append_left (by rw [K.len]; exact hi)]
      exact hu
    | succ j =>
      rw [List.getElem?_append_right (by rw [K.len, Nat.add_mul]; omega), K.len, show (j + 1) * K.k + i - K.k = j * K.k + i by rw [Nat.add_mul]; omega]
      exact ih j (by simpa using hj) (by simpa using hu)
theorem KindR.row_set (l : List α) (j : Nat) (hj : j < l.length) (i : Nat) (hi : i < K.k) (u : Value) (y : α) (hy : K.cs y = (K.cs l[j]).set i u) : K.row (l.set j y) = (K.row l).set (j * K.k + i) u := by
  induction l generalizing j with
  | nil => simp at hj
  | cons x l ih =>
    cases j with
    | zero =>
      rw [List.set_cons_zero, K.row_cons, K.row_cons, Nat.zero_mul, Nat.zero_add, List.set_append_left _ _ (by rw [K.len]; exact hi), hy]
      rfl
    | succ j =>
      rw [List.set_cons_succ, K.row_cons, K.row_cons, List.set_append_right _ _ (by rw [K.len, Nat.add_mul]; omega), K.len, show (j + 1) * K.k + i - K.k = j * K.k + i by rw [Nat.add_mul]; omega]
      rw [ih j (by simpa using hj) (by simpa using hy)]
end
def OffT (ts : List TypeId) (w : World) (base : Nat) (row : Option Nat) : Prop := ∀ r, row = some r → r < base ∨ ∀ cur e fz, w.heap[r]? = some (.cells cur e fz) → e ∉ ts
theorem OffT.none (ts : List TypeId) (w : World) (base : Nat) : OffT ts w base none := fun r h => by cases h
theorem OffT.low {ts : List TypeId} {w : World} {base k : Nat} (h : k < base) : OffT ts w base (some k) := fun r hr => by cases hr; exact Or.inl h
theorem OffT.sub {ts us : List TypeId} {w : World} {base : Nat} {row : Option Nat} (h : OffT ts w base row) (hs : ∀ t ∈ us, t ∈ ts) : OffT us w base row := fun r hr => by
  rcases h r hr with h | h
  · exact Or.inl h
  · exact Or.inr (fun cur e fz hh hm => h cur e fz hh (hs e hm))
theorem OffT.of_type {ts : List TypeId} {w : World} {base r : Nat} {cur : Array Value} {e : TypeId} {fz : Nat × Nat} (h : w.heap[r]? = some (.cells cur e fz)) (he : e ∉ ts) : OffT ts w base (some r) := fun r' hr => by
  cases hr
  exact Or.inr (fun cur' e' fz' h' => by rw [h] at h'; simp at h'; rw [← h'.2.1]; exact he)
structure NestR (α : Type) where
  ts : List TypeId
  ok : World → Nat → α → Prop
  keep : ∀ {w w' : World} {base : Nat} {row : Option Nat} {x : α}, ok w base x → w.grownBy w' row → OffT ts w base row → ok w' base x
  mono : ∀ {w : World} {base base' : Nat} {x : α}, ok w base x → base' ≤ base → ok w base' x
structure RowG {α : Type} (K : KindR α) (N : NestR α) (w : World) (base : Nat) (v : Value) (l : List α) : Prop where
  own : w.ownsRow base K.e K.k v l.length (K.row l)
  ok : ∀ x ∈ l, N.ok w base x
section
variable {α : Type} {K : KindR α} {N : NestR α} {w w' : World} {base : Nat} {v : Value} {l : List α}
theorem RowG.nil (K : KindR α) (N : NestR α) (w : World) (base : Nat) : RowG K N w base (.slice none 0 0) [] := ⟨World.ownsRow_nil w base K.e K.k, fun x hx => by cases hx⟩
theorem RowG.mono {base' : Nat} (h : RowG K N w base v l) (hb : base' ≤ base) : RowG K N w base' v l := by
  refine ⟨⟨h.own.1, ?_⟩, fun x hx => N.mono (h.ok x hx) hb⟩
  rcases h.own.2 with h1 | ⟨g, cap, cur, hv, hg, rest⟩
  · exact Or.inl h1
  · exact Or.inr ⟨g, cap, cur, hv, by omega, rest⟩
theorem RowG.lt (h : RowG K N w base v l) : ∀ k, v.ownBlock = some k → base ≤ k ∧ k < w.heap.size := World.ownsRow.lt h.own
theorem RowG.grown {row : Option Nat} (h : RowG K N w base v l) (hg : w.grownBy w' row) (hne : ∀ r, row = some r → v.ownBlock ≠ some r) (hr : OffT N.ts w base row) : RowG K N w' base v l :=
  ⟨World.ownsRow.kept h.own hg (by
    rcases hv : v.ownBlock with _ | b
    · exact Or.inl rfl
    · refine Or.inr ?_
      intro e
      rcases hrow : row with _ | r
      · rw [hrow] at e; cases e
      · rw [hrow] at e
        cases e
        exact hne _ hrow hv), fun x hx => N.keep (h.ok x hx) hg hr⟩
theorem RowG.low {k : Nat} (h : RowG K N w base v l) (hg : w.grownBy w' (some k)) (hk : k < base) : RowG K N w' base v l :=
  h.grown hg (fun r hr e => by cases hr; have := (h.lt k e).1; omega) (OffT.low hk)
theorem RowG.below (h : RowG K N w base v l) (hb : Below w.heap.size w w') : RowG K N w' base v l :=
  h.grown (row := none) ⟨hb.os, hb.tape, hb.output, hb.size, fun i hi _ => hb.block i hi⟩ (fun r hr => by cases hr) (OffT.none _ _ _)
theorem RowG.alloc (h : RowG K N w base v l) (o : Obj) : RowG K N (w.alloc o) base v l := h.below ((Below.refl _ w).alloc (Nat.le_refl _) o)
theorem RowG.offT {ts : List TypeId} {base' : Nat} (h : RowG K N w base v l) (he : K.e ∉ ts) : OffT ts w base' v.ownBlock := fun r hr => by
  rcases h.own.2 with ⟨rfl, _⟩ | ⟨g, cap, cur, rfl, hg, hh, _⟩
  · simp [Value.ownBlock] at hr
  · simp [Value.ownBlock] at hr
    subst hr
    exact OffT.of_type hh he g rfl
theorem RowG.form (h : RowG K N w base v l) {n : Nat} (hn : l.length = n) : ∃ p c, v = .slice p n c := by
  subst hn
  rcases h.own.2 with ⟨rfl, h0⟩ | ⟨g, cap, cur, rfl, _⟩
  · exact ⟨none, 0, by rw [h0]⟩
  · exact ⟨_, _, rfl⟩
theorem RowG.at_ (h : RowG K N w base v l) {n : Nat} (hn : l.length = n) (hp : 0 < n) :
    ∃ g c, v = .slice (some ⟨g, 0, none⟩) n c ∧ n ≤ c ∧ c ≤ maxLen ∧ base ≤ g ∧ g < w.heap.size ∧ (∀ j u, (K.row l)[j]? = some u → w.cell? ⟨g, j, none⟩ = some u) ∧ (∀ j, w.frozen? ⟨g, j, none⟩ = false) := by
  subst hn
  have h0 := h.own
  rcases h.own.2 with ⟨rfl, hz⟩ | ⟨g, cap, cur, rfl, hb, hh, hnc, hm, hs, ht⟩
  · omega
  · refine ⟨g, cap, rfl, hnc, hm, hb, (Array.getElem?_eq_some_iff.1 hh).1, fun j u hj => ?_, fun j => World.ownsRow.frozenAt h0 j⟩
    have := World.ownsRow.cells h0 (g := g) rfl j u hj
    rw [WideShapes.add_plain, Nat.zero_add] at this
    exact this
theorem RowG.set {g n c : Nat} (h : RowG K N w base (.slice (some ⟨g, 0, none⟩) n c) l) (j : Nat) (hj : j < l.length) (i : Nat) (hi : i < K.k) (u : Value) (y : α) (hy : K.cs y = (K.cs l[j]).set i u) (hn : l.length = n) (he : K.e ∉ N.ts)
    (hok : N.ok (w.setCell ⟨g, j * K.k + i, none⟩ u) base y) : RowG K N (w.setCell ⟨g, j * K.k + i, none⟩ u) base (.slice (some ⟨g, 0, none⟩) n c) (l.set j y) := by
  subst hn
  have hg : w.grownBy (w.setCell ⟨g, j * K.k + i, none⟩ u) (some g) := ⟨rfl, rfl, rfl, by simp [World.setCell], fun i hi hne => Below.heap_setCell _ _ _ _ (by simp at hne; exact hne)⟩
  refine ⟨?_, fun x hx => ?_⟩
  · have := (World.ownsRow.stored h.own (j * K.k + i) u).1
    rw [List.length_set, K.row_set l j hj i hi u y hy]
    exact this
  · rcases List.mem_or_eq_of_mem_set hx with hx | rfl
    · exact N.keep (h.ok x hx) hg (by have := h.offT (ts := N.ts) (base' := base) he; simpa [Value.ownBlock] using this)
    · exact hok
end
def SrcG {α : Type} (K : KindR α) (w : World) (p : Option Addr) (m : Nat) (r : List α) : Prop := r.length = m ∧ (0 < m → ∃ ad, p = some ad ∧ ∀ j u, (K.row r)[j]? = some u → w.cell? (ad.add j) = some u)
theorem RowG.src {α : Type} {K : KindR α} {N : NestR α} {w : World} {base : Nat} {p : Option Addr} {m c : Nat} {l : List α} (h : RowG K N w base (.slice p m c) l) : SrcG K w p m l := by
  obtain ⟨p', c', e⟩ := h.form rfl
  simp at e
  obtain ⟨rfl, rfl, rfl⟩ := e
  refine ⟨rfl, fun h0 => ?_⟩
  obtain ⟨g, c', hv, _, _, _, _, hc, _⟩ := h.at_ rfl h0
  simp at hv
  obtain ⟨rfl, rfl⟩ := hv
  exact ⟨_, rfl, fun j u hj => by rw [WideShapes.add_plain, Nat.zero_add]; exact hc j u hj⟩
theorem SrcG.new {α : Type} (K : KindR α) (w : World) (r : List α) (T : TypeId) : SrcG K (w.alloc (.cells (K.row r).toArray T)) (some ⟨w.heap.size, 0, none⟩) r.length r :=
  ⟨rfl, fun _ => ⟨_, rfl, fun j u hj => by
    rw [WideShapes.add_plain, Nat.zero_add, World.cell?_alloc_at _ _ _ _ rfl]
    simpa using hj⟩⟩
structure KnownR {α : Type} (P : Program) (K : KindR α) (t : TypeId) (bytes : Nat) : Prop where
  under : P.underlying t = some (.slice K.e)
  info : ∃ i z, P.info? K.e = some i ∧ i.zero = some z ∧ i.size = K.k ∧ i.bytes = bytes ∧ z.cells.size = K.k
section
variable {α : Type} {P : Program} {K : KindR α} {N : NestR α} {t : TypeId} {bytes : Nat}
theorem run_append_g (hk : KnownR P K t bytes) (he : K.e ∉ N.ts) (w : World) (base : Nat) (ty : TypeId) (v : Value) (l : List α) (h : RowG K N w base v l) (p : Option Addr) (m c : Nat) (r : List α) (hs : SrcG K w p m r) (hr : ∀ x ∈ r, N.ok w base x)
    (h63 : l.length + m ≤ maxLen) (hbytes : (l.length + m) * bytes ≤ 140737488355328) (hbase : base ≤ w.heap.size) :
    ∃ v' w', (Builtin.append_ #[t, t] ty #[v, .slice p m c]).run P w = .ok v' w' ∧ RowG K N w' base v' (l ++ r) ∧ w.grownBy w' v.ownBlock := by
  obtain ⟨i0, z, hi, hz0, hz1, hz2, hz3⟩ := hk.info
  have ht := hk.under
  have key : ∀ {w' : World}, w.grownBy w' v.ownBlock → ∀ x ∈ l ++ r, N.ok w' base x := fun hg x hx => by
    rcases List.mem_append.1 hx with hx | hx
    · exact N.keep (h.ok x hx) hg (h.offT he)
    · exact N.keep (hr x hx) hg (h.offT he)
  cases p with
  | none =>
    have hm : m = 0 := by
      rcases Nat.eq_zero_or_pos m with h0 | h0
      · exact h0
      · obtain ⟨ad, e, _⟩ := hs.2 h0
        cases e
    subst hm
    obtain rfl : r = [] := List.eq_nil_of_length_eq_zero hs.1
    refine ⟨v, w, ?_, by rw [List.append_nil]; exact h, World.grownBy.refl w _⟩
    rcases h.own.2 with ⟨rfl, hx⟩ | ⟨g, cap, cur, rfl, _, _, hnc, _⟩
    · simp [Builtin.append_, run_underlying ht, sizeOf, typeInfo, hi, Builtin.lenOf, Builtin.firstCells]
    · simp [Builtin.append_, run_underlying ht, sizeOf, typeInfo, hi, Builtin.lenOf, Builtin.firstCells, hnc, storeCells]
  | some a =>
    have hcells : ∀ j u, (K.row r)[j]? = some u → w.cell? (a.add j) = some u := by
      intro j u hj
      rcases Nat.eq_zero_or_pos m with h0 | h0
      · have : r = [] := List.eq_nil_of_length_eq_zero (hs.1.trans h0)
        subst this
        simp [KindR.row] at hj
      · obtain ⟨ad, e, hc⟩ := hs.2 h0
        cases e
        exact hc j u hj
    obtain ⟨v', w', hrun, h2, h3, _⟩ := run_append_own (P := P) w base t ty K.e i0 z K.k bytes ht hi hz0 hz1 hz2 hz3 K.pos v l.length (K.row l) h.own a m c (K.row r) (by rw [K.row_len, hs.1])
      hcells (K.row_one r) h63 hbytes hbase
    refine ⟨v', w', hrun, ⟨?_, key h3⟩, h3⟩
    rw [List.length_append, K.row_append, hs.1]
    exact h2
theorem wp_append_g (hk : KnownR P K t bytes) (he : K.e ∉ N.ts) (w : World) {o : Oper} {a : Act} {C : Act → World → Prop} {Q : Exit → Act → World → Prop} (s x : Operand)
    (ho : o.op = .call { callee := .builtin .append, args := #[s, x], argTypes := #[t, t] })
    (base : Nat) (v : Value) (l : List α) (hs : a.eval s = v) (hv : RowG K N w base v l)
    (p : Option Addr) (m c : Nat) (r : List α) (hx : a.eval x = .slice p m c) (hsrc : SrcG K w p m r) (hr : ∀ x ∈ r, N.ok w base x) (h63 : l.length + m ≤ maxLen) (hbytes : (l.length + m) * bytes ≤ 140737488355328) (hbase : base ≤ w.heap.size)
    (h : ∀ v' w', RowG K N w' base v' (l ++ r) → w.grownBy w' v.ownBlock → C (a.put o.dst v') w') : o.wp P a w C Q := by
  obtain ⟨v', w', hrun, h2, h3⟩ := run_append_g hk he w base o.type v l hv p m c r hsrc hr h63 hbytes hbase
  unfold Oper.wp execOp
  simp only [ho, resolve, invoke, builtin, Sem.run_bind, Sem.run_pure, Result.andThen_ok, List.map_toArray, List.map_cons, List.map_nil, hs, hx, hrun]
  exact h v' w' h2 h3
theorem wpList_append_g (hk : KnownR P K t bytes) (he : K.e ∉ N.ts) (w : World) {ops : Array Oper} {rest : List Oper} {o : Oper} {a : Act} {Q : Exit → Act → World → Prop} (hw : Region.wanted o (yielded ops a.tmps) = true) (s x : Operand)
    (ho : o.op = .call { callee := .builtin .append, args := #[s, x], argTypes := #[t, t] })
    (base : Nat) (v : Value) (l : List α) (hs : a.eval s = v) (hv : RowG K N w base v l)
    (p : Option Addr) (m c : Nat) (r : List α) (hx : a.eval x = .slice p m c) (hsrc : SrcG K w p m r) (hr : ∀ x ∈ r, N.ok w base x) (h63 : l.length + m ≤ maxLen) (hbytes : (l.length + m) * bytes ≤ 140737488355328) (hbase : base ≤ w.heap.size)
    (h : ∀ v' w', RowG K N w' base v' (l ++ r) → w.grownBy w' v.ownBlock → wpList P ops Q rest (a.put o.dst v') w') : wpList P ops Q (o :: rest) a w := by
  refine wpList_step fun C hC => ?_
  rw [if_pos hw]
  exact wp_append_g hk he w s x ho base v l hs hv p m c r hx hsrc hr h63 hbytes hbase fun v' w' h2 h3 => hC _ _ (h v' w' h2 h3)
end
structure ReadN (α : Type) where
  ok : World → α → Prop
  keep : ∀ {w w' : World} {x : α}, ok w x → (∀ a v, w.cell? a = some v → w'.cell? a = some v) → ok w' x
structure RdG {α : Type} (K : KindR α) (D : ReadN α) (w : World) (p : Option Addr) (n c : Nat) (l : List α) : Prop where
  len : l.length = n
  cap : n ≤ c
  big : c ≤ maxLen
  mem : 0 < n → ∃ g, p = some ⟨g, 0, none⟩ ∧ ∀ j u, (K.row l)[j]? = some u → w.cell? ⟨g, j, none⟩ = some u
  ok : ∀ x ∈ l, D.ok w x
section
variable {α : Type} {K : KindR α} {D : ReadN α} {w w' : World} {p : Option Addr} {n c : Nat} {l : List α}
theorem RdG.keep (h : RdG K D w p n c l) (hk : ∀ a v, w.cell? a = some v → w'.cell? a = some v) : RdG K D w' p n c l :=
  ⟨h.len, h.cap, h.big, fun h0 => by
    obtain ⟨g, e, hc⟩ := h.mem h0
    exact ⟨g, e, fun j u hj => hk _ _ (hc j u hj)⟩, fun x hx => D.keep (h.ok x hx) hk⟩
theorem RdG.below (h : RdG K D w p n c l) (hb : Below w.heap.size w w') : RdG K D w' p n c l := h.keep (cell_below hb)
theorem RdG.le (h : RdG K D w p n c l) : n ≤ 9223372036854775807 := by
  have h1 := h.cap
  have h2 := h.big
  unfold maxLen at h2
  omega
theorem RdG.cell (h : RdG K D w p n c l) (j : Nat) (hj : j < l.length) : ∃ g, p = some ⟨g, 0, none⟩ ∧ (∀ i u, (K.cs l[j])[i]? = some u → w.cell? ⟨g, j * K.k + i, none⟩ = some u) ∧ D.ok w l[j] := by
  obtain ⟨g, e, hc⟩ := h.mem (by have := h.len; omega)
  exact ⟨g, e, fun i u hi => hc _ _ (K.row_get l j hj i u hi), h.ok _ (List.getElem_mem hj)⟩
theorem RowG.rd {N : NestR α} {base : Nat} {v : Value} (h : RowG K N w base v l) {n : Nat} (hn : l.length = n) (hd : ∀ x, N.ok w base x → D.ok w x) : ∃ p c, v = .slice p n c ∧ RdG K D w p n c l := by
  subst hn
  have hok : ∀ x ∈ l, D.ok w x := fun x hx => hd x (h.ok x hx)
  rcases h.own.2 with ⟨rfl, h0⟩ | ⟨g, cap, cur, rfl, hg, hh, hnc, hm, hs, ht⟩
  · exact ⟨none, 0, by rw [h0], rfl, by omega, by unfold maxLen; omega, fun h => by omega, hok⟩
  · refine ⟨_, _, rfl, rfl, hnc, hm, fun h0 => ⟨g, rfl, fun j u hj => ?_⟩, hok⟩
    have := World.ownsRow.cells h.own (g := g) rfl j u hj
    rw [WideShapes.add_plain, Nat.zero_add] at this
    exact this
theorem RdG.new (K : KindR α) (D : ReadN α) (w : World) (l : List α) (T : TypeId) (hl : l.length ≤ maxLen) (hd : ∀ x ∈ l, D.ok w x) : RdG K D (w.alloc (.cells (K.row l).toArray T)) (some ⟨w.heap.size, 0, none⟩) l.length l.length l :=
  ⟨rfl, Nat.le_refl _, hl, fun _ => ⟨_, rfl, fun j u hj => by
    rw [World.cell?_alloc_at _ _ _ _ rfl]
    simpa using hj⟩, fun x hx => D.keep (hd x hx) (cell_below ((Below.refl _ w).alloc (Nat.le_refl _) _))⟩
theorem RdG.src (h : RdG K D w p n c l) : SrcG K w p n l :=
  ⟨h.len, fun h0 => by
    obtain ⟨g, e, hc⟩ := h.mem h0
    exact ⟨_, e, fun j u hj => by rw [WideShapes.add_plain, Nat.zero_add]; exact hc j u hj⟩⟩
theorem RdG.front (h : RdG K D w p n c l) (j : Nat) (hj : j ≤ n) : RdG K D w p j c (l.take j) := by
  have hl := h.len
  refine ⟨by simp; omega, by have := h.cap; omega, h.big, fun h0 => ?_, fun x hx => h.ok x (List.mem_of_mem_take hx)⟩
  obtain ⟨g, e, hc⟩ := h.mem (by omega)
  refine ⟨g, e, fun i u hi => hc i u ?_⟩
  have h2 : K.row l = K.row (l.take j) ++ K.row (l.drop j) := by rw [← K.row_append, List.take_append_drop]
  rw [h2, List.getElem?_append_left (List.getElem?_eq_some_iff.1 hi).1]
  exact hi
end
end Go.Proofs.YtnbkffehhahckaaGreat

namespace Go.Proofs.YtnbkffehhahckaaGreat
open Go.RowKit
set_option linter.unusedVariables false
theorem below_two {w : World} (o1 o2 : Obj) : Below w.heap.size w ((w.alloc o1).alloc o2) := ((Below.refl _ _).alloc (Nat.le_refl _) o1).alloc (by simp) o2
theorem below_three {w : World} (o1 o2 o3 : Obj) : Below w.heap.size w (((w.alloc o1).alloc o2).alloc o3) := (below_two o1 o2).alloc (by simp; omega) o3
theorem less_any (x y : Ad) (w : World) :
    Calls Tryz.prog 125 #[(.agg #[.int .i64 x.f, .int .u64 x.h, .int .u64 x.l]), (.agg #[.int .i64 y.f, .int .u64 y.h, .int .u64 y.l])] w fun e w' => e = .returned (.bool (ltA x y)) ∧ Below w.heap.size w w' := by
  obtain ⟨xf, xh, xl⟩ := x
  obtain ⟨yf, yh, yl⟩ := y
  by_cases h1 : xf ≠ yf
  · have e1 : (xf != yf) = true := by simpa using h1
    go_enter Tryz.func125, Tryz.ntmps125
    go_wp2
    go_ret
    exact ⟨by simp [ltA, h1], below_two _ _⟩
  obtain rfl : xf = yf := by omega
  have e1 : (xf != xf) = false := by simp
  by_cases h2 : xh ≠ yh
  · have e2 : (xh != yh) = true := by simpa using h2
    go_enter Tryz.func125, Tryz.ntmps125
    go_wp2
    go_ret
    exact ⟨by simp [ltA, h2], below_two _ _⟩
  obtain rfl : xh = yh := by omega
  have e2 : (xh != xh) = false := by simp
  go_enter Tryz.func125, Tryz.ntmps125
  go_wp2
  go_ret
  exact ⟨by simp [ltA], below_two _ _⟩
theorem sless_any (x y : Ad) (w : World) :
    Calls Tryz.prog 119 #[(.agg #[.int .i64 x.f, .int .u64 x.h, .int .u64 x.l]), (.agg #[.int .i64 y.f, .int .u64 y.h, .int .u64 y.l])] w fun e w' => e = .returned (.bool (ltA x y)) ∧ Below w.heap.size w w' := by
  have HL := hidden (less_any x y ((w.alloc (.cells #[.int .i64 x.f, .int .u64 x.h, .int .u64 x.l] 111)).alloc (.cells #[.int .i64 y.f, .int .u64 y.h, .int .u64 y.l] 111)))
  have HB := hidden (below_two (w := w) (.cells #[.int .i64 x.f, .int .u64 x.h, .int .u64 x.l] 111) (.cells #[.int .i64 y.f, .int .u64 y.h, .int .u64 y.l] 111))
  go_enter Tryz.func119, Tryz.ntmps119
  go_wp2_with (go_at_call 125; (with_reducible refine (HL.out).mono ?_))
  rintro e w1 ⟨rfl, hb⟩
  go_wp2
  go_ret
  exact ⟨rfl, HB.out.trans (hb.mono (by simp; omega))⟩
theorem valid_any (x : Ad) (w : World) :
    Calls Tryz.prog 118 #[(.agg #[.int .i64 x.f, .int .u64 x.h, .int .u64 x.l])] w fun e w' => e = .returned (.bool (validA x)) ∧ Below w.heap.size w w' := by
  go_enter Tryz.func118, Tryz.ntmps118
  go_wp2
  all_goals go_ret
  all_goals exact ⟨by simp_all [validA], (Below.refl _ _).alloc (Nat.le_refl _) _⟩
theorem arePorts_any (a b : Int) (w : World) :
    Calls Tryz.prog 120 #[.int .i64 a, .int .i64 b] w fun e w' => e = .returned (.bool (portsOk a b)) ∧ w = w' := by
  go_enter Tryz.func120, Tryz.ntmps120
  go_wp2
  all_goals go_ret
  all_goals refine ⟨?_, rfl⟩
  all_goals simp_all [portsOk]
  all_goals first | omega | (rw [Bool.eq_iff_iff]; simp; omega)
end Go.Proofs.YtnbkffehhahckaaGreat

namespace Go.Proofs.YtnbkffehhahckaaGreat
open Go.RowKit
set_option linter.unusedVariables false
structure SlIn (w : World) (g : Nat) (s : Sl) : Prop where
  c0 : w.cell? ⟨g, 0, none⟩ = some (.int .i64 s.p)
  c1 : w.cell? ⟨g, 1, none⟩ = some (.int .i64 s.a)
  c2 : w.cell? ⟨g, 2, none⟩ = some (.int .i64 s.b)
  c3 : w.cell? ⟨g, 3, none⟩ = some (.int .i64 s.lo.f)
  c4 : w.cell? ⟨g, 4, none⟩ = some (.int .u64 s.lo.h)
  c5 : w.cell? ⟨g, 5, none⟩ = some (.int .u64 s.lo.l)
  c6 : w.cell? ⟨g, 6, none⟩ = some (.int .i64 s.hi.f)
  c7 : w.cell? ⟨g, 7, none⟩ = some (.int .u64 s.hi.h)
  c8 : w.cell? ⟨g, 8, none⟩ = some (.int .u64 s.hi.l)
  fr : ∀ j, w.frozen? ⟨g, j, none⟩ = false
theorem SlIn.lt {w : World} {g : Nat} {s : Sl} (h : SlIn w g s) : g < w.heap.size := World.block_lt_of_cell? w _ h.c0
theorem SlIn.grown {w w' : World} {g : Nat} {s : Sl} {row : Option Nat} (h : SlIn w g s) (hg : w.grownBy w' row) (hne : some g ≠ row) : SlIn w' g s :=
  ⟨hg.cell h.c0 hne, hg.cell h.c1 hne, hg.cell h.c2 hne, hg.cell h.c3 hne, hg.cell h.c4 hne, hg.cell h.c5 hne, hg.cell h.c6 hne, hg.cell h.c7 hne, hg.cell h.c8 hne, fun j => (World.frozen?_of_block (a := ⟨g, j, none⟩) (hg.block g h.lt hne)).trans (h.fr j)⟩
theorem SlIn.below {w w' : World} {g : Nat} {s : Sl} (h : SlIn w g s) (hb : Below w.heap.size w w') : SlIn w' g s := h.grown (row := none) (grown_of_below hb none) (by simp)
theorem SlIn.alloc {w : World} {g : Nat} {s : Sl} (h : SlIn w g s) (b : Obj) : SlIn (w.alloc b) g s := h.below ((Below.refl _ _).alloc (Nat.le_refl _) b)
theorem SlIn.new (w : World) (s : Sl) (T : TypeId) : SlIn (w.alloc (.cells #[.int .i64 s.p, .int .i64 s.a, .int .i64 s.b, .int .i64 s.lo.f, .int .u64 s.lo.h, .int .u64 s.lo.l, .int .i64 s.hi.f, .int .u64 s.hi.h, .int .u64 s.hi.l] T)) w.heap.size s :=
  ⟨by go_simp, by go_simp, by go_simp, by go_simp, by go_simp, by go_simp, by go_simp, by go_simp, by go_simp, fun j => by go_simp⟩
theorem SlIn.set_ne {w : World} {g : Nat} {s : Sl} (h : SlIn w g s) (g' j : Nat) (v : Value) (hne : g ≠ g') : SlIn (w.setCell ⟨g', j, none⟩ v) g s :=
  h.grown (grown_set w g' j v) (by simp; exact hne)
section
variable {w : World} {g : Nat} {s : Sl}
theorem SlIn.setP (h : SlIn w g s) (z : Int) : SlIn (w.setCell ⟨g, 0, none⟩ (.int .i64 z)) g { s with p := z } := by
  obtain ⟨c0, c1, c2, c3, c4, c5, c6, c7, c8, fr⟩ := h
  exact ⟨by go_simp, by go_simp, by go_simp, by go_simp, by go_simp, by go_simp, by go_simp, by go_simp, by go_simp, fun j => by rw [World.frozen?_setCell]; exact fr j⟩
theorem SlIn.setA (h : SlIn w g s) (z : Int) : SlIn (w.setCell ⟨g, 1, none⟩ (.int .i64 z)) g { s with a := z } := by
  obtain ⟨c0, c1, c2, c3, c4, c5, c6, c7, c8, fr⟩ := h
  exact ⟨by go_simp, by go_simp, by go_simp, by go_simp, by go_simp, by go_simp, by go_simp, by go_simp, by go_simp, fun j => by rw [World.frozen?_setCell]; exact fr j⟩
theorem SlIn.setB (h : SlIn w g s) (z : Int) : SlIn (w.setCell ⟨g, 2, none⟩ (.int .i64 z)) g { s with b := z } := by
  obtain ⟨c0, c1, c2, c3, c4, c5, c6, c7, c8, fr⟩ := h
  exact ⟨by go_simp, by go_simp, by go_simp, by go_simp, by go_simp, by go_simp, by go_simp, by go_simp, by go_simp, fun j => by rw [World.frozen?_setCell]; exact fr j⟩
theorem SlIn.setLo (h : SlIn w g s) (z : Ad) : SlIn (((w.setCell ⟨g, 3, none⟩ (.int .i64 z.f)).setCell ⟨g, 4, none⟩ (.int .u64 z.h)).setCell ⟨g, 5, none⟩ (.int .u64 z.l)) g { s with lo := z } := by
  obtain ⟨c0, c1, c2, c3, c4, c5, c6, c7, c8, fr⟩ := h
  exact ⟨by go_simp, by go_simp, by go_simp, by go_simp, by go_simp, by go_simp, by go_simp, by go_simp, by go_simp, fun j => by rw [World.frozen?_setCell, World.frozen?_setCell, World.frozen?_setCell]; exact fr j⟩
theorem SlIn.setHi (h : SlIn w g s) (z : Ad) : SlIn (((w.setCell ⟨g, 6, none⟩ (.int .i64 z.f)).setCell ⟨g, 7, none⟩ (.int .u64 z.h)).setCell ⟨g, 8, none⟩ (.int .u64 z.l)) g { s with hi := z } := by
  obtain ⟨c0, c1, c2, c3, c4, c5, c6, c7, c8, fr⟩ := h
  exact ⟨by go_simp, by go_simp, by go_simp, by go_simp, by go_simp, by go_simp, by go_simp, by go_simp, by go_simp, fun j => by rw [World.frozen?_setCell, World.frozen?_setCell, World.frozen?_setCell]; exact fr j⟩
theorem SlIn.setAll (h : SlIn w g s) (z : Sl) : SlIn (((((((((w.setCell ⟨g, 0, none⟩ (.int .i64 z.p)).setCell ⟨g, 1, none⟩ (.int .i64 z.a)).setCell ⟨g, 2, none⟩ (.int .i64 z.b)).setCell ⟨g, 3, none⟩ (.int .i64 z.lo.f)).setCell ⟨g, 4, none⟩ (.int .u64 z.lo.h)).setCell ⟨g, 5, none⟩ (.int .u64 z.lo.l)).setCell ⟨g, 6, none⟩ (.int .i64 z.hi.f)).setCell ⟨g, 7, none⟩ (.int .u64 z.hi.h)).setCell ⟨g, 8, none⟩ (.int .u64 z.hi.l)) g z :=
  (((((h.setP z.p).setA z.a).setB z.b).setLo z.lo).setHi z.hi)
end
theorem load_sl {w : World} {g : Nat} {s : Sl} (h : SlIn w g s) : (loadVar 113 ⟨g, 0, none⟩).run Tryz.prog w = .ok (.agg #[.int .i64 s.p, .int .i64 s.a, .int .i64 s.b, .int .i64 s.lo.f, .int .u64 s.lo.h, .int .u64 s.lo.l, .int .i64 s.hi.f, .int .u64 s.hi.h, .int .u64 s.hi.l]) w := by
  obtain ⟨c0, c1, c2, c3, c4, c5, c6, c7, c8, fr⟩ := h
  simp [loadVar, go_sem, c0, c1, c2, c3, c4, c5, c6, c7, c8, Result.andThen]
theorem ret_sl {fn : Func} {R : Ending → World → Prop} {a : Act} {w : World} {p : Nat} {g : Nat} {s : Sl} (h : fn.results = #[.cell p 113]) (hp : a.tmps.getD p undef = .pointer (some ⟨g, 0, none⟩)) (hd : a.defers = [])
    (hh : SlIn w g s) (hR : R (.returned (.agg #[.int .i64 s.p, .int .i64 s.a, .int .i64 s.b, .int .i64 s.lo.f, .int .u64 s.lo.h, .int .u64 s.lo.l, .int .i64 s.hi.f, .int .u64 s.hi.h, .int .u64 s.hi.l])) w) : bodyPost Tryz.prog fn R .ret a w := by
  refine bodyPost_ret (v := (.agg #[.int .i64 s.p, .int .i64 s.a, .int .i64 s.b, .int .i64 s.lo.f, .int .u64 s.lo.h, .int .u64 s.lo.l, .int .i64 s.hi.f, .int .u64 s.hi.h, .int .u64 s.hi.l])) ?_ hd hR
  rw [Array.getD_eq_getD_getElem?] at hp
  simp [results, h, hp, asAddr, load_sl hh]
structure AdIn (w : World) (g : Nat) (x : Ad) : Prop where
  c0 : w.cell? ⟨g, 0, none⟩ = some (.int .i64 x.f)
  c1 : w.cell? ⟨g, 1, none⟩ = some (.int .u64 x.h)
  c2 : w.cell? ⟨g, 2, none⟩ = some (.int .u64 x.l)
  fr : ∀ j, w.frozen? ⟨g, j, none⟩ = false
theorem AdIn.lt {w : World} {g : Nat} {x : Ad} (h : AdIn w g x) : g < w.heap.size := World.block_lt_of_cell? w _ h.c0
theorem AdIn.grown {w w' : World} {g : Nat} {x : Ad} {row : Option Nat} (h : AdIn w g x) (hg : w.grownBy w' row) (hne : some g ≠ row) : AdIn w' g x :=
  ⟨hg.cell h.c0 hne, hg.cell h.c1 hne, hg.cell h.c2 hne, fun j => (World.frozen?_of_block (a := ⟨g, j, none⟩) (hg.block g h.lt hne)).trans (h.fr j)⟩
theorem AdIn.below {w w' : World} {g : Nat} {x : Ad} (h : AdIn w g x) (hb : Below w.heap.size w w') : AdIn w' g x := h.grown (row := none) (grown_of_below hb none) (by simp)
theorem AdIn.alloc {w : World} {g : Nat} {x : Ad} (h : AdIn w g x) (b : Obj) : AdIn (w.alloc b) g x := h.below ((Below.refl _ _).alloc (Nat.le_refl _) b)
theorem AdIn.new (w : World) (x : Ad) (T : TypeId) : AdIn (w.alloc (.cells #[.int .i64 x.f, .int .u64 x.h, .int .u64 x.l] T)) w.heap.size x :=
  ⟨by go_simp, by go_simp, by go_simp, fun j => by go_simp⟩
theorem AdIn.set_ne {w : World} {g : Nat} {x : Ad} (h : AdIn w g x) (g' j : Nat) (v : Value) (hne : g ≠ g') : AdIn (w.setCell ⟨g', j, none⟩ v) g x :=
  h.grown (grown_set w g' j v) (by simp; exact hne)
theorem AdIn.setH {w : World} {g : Nat} {x : Ad} (h : AdIn w g x) (z : Int) : AdIn (w.setCell ⟨g, 1, none⟩ (.int .u64 z)) g { x with h := z } := by
  obtain ⟨c0, c1, c2, fr⟩ := h
  exact ⟨by go_simp, by go_simp, by go_simp, fun j => by rw [World.frozen?_setCell]; exact fr j⟩
theorem AdIn.setL {w : World} {g : Nat} {x : Ad} (h : AdIn w g x) (z : Int) : AdIn (w.setCell ⟨g, 2, none⟩ (.int .u64 z)) g { x with l := z } := by
  obtain ⟨c0, c1, c2, fr⟩ := h
  exact ⟨by go_simp, by go_simp, by go_simp, fun j => by rw [World.frozen?_setCell]; exact fr j⟩
theorem load_ad {w : World} {g : Nat} {x : Ad} (h : AdIn w g x) : (loadVar 111 ⟨g, 0, none⟩).run Tryz.prog w = .ok (.agg #[.int .i64 x.f, .int .u64 x.h, .int .u64 x.l]) w := by
  obtain ⟨c0, c1, c2, fr⟩ := h
  simp [loadVar, go_sem, c0, c1, c2, Result.andThen]
theorem ret_ad {fn : Func} {R : Ending → World → Prop} {a : Act} {w : World} {p : Nat} {g : Nat} {x : Ad} (h : fn.results = #[.cell p 111]) (hp : a.tmps.getD p undef = .pointer (some ⟨g, 0, none⟩)) (hd : a.defers = [])
    (hh : AdIn w g x) (hR : R (.returned (.agg #[.int .i64 x.f, .int .u64 x.h, .int .u64 x.l])) w) : bodyPost Tryz.prog fn R .ret a w := by
  refine bodyPost_ret (v := (.agg #[.int .i64 x.f, .int .u64 x.h, .int .u64 x.l])) ?_ hd hR
  rw [Array.getD_eq_getD_getElem?] at hp
  simp [results, h, hp, asAddr, load_ad hh]
structure TwoIn (w : World) (g : Nat) (x y : Int) : Prop where
  c0 : w.cell? ⟨g, 0, none⟩ = some (.int .i64 x)
  c1 : w.cell? ⟨g, 1, none⟩ = some (.int .i64 y)
  fr : ∀ j, w.frozen? ⟨g, j, none⟩ = false
theorem TwoIn.lt {w : World} {g : Nat} {x y : Int} (h : TwoIn w g x y) : g < w.heap.size := World.block_lt_of_cell? w _ h.c0
theorem TwoIn.grown {w w' : World} {g : Nat} {x y : Int} {row : Option Nat} (h : TwoIn w g x y) (hg : w.grownBy w' row) (hne : some g ≠ row) : TwoIn w' g x y :=
  ⟨hg.cell h.c0 hne, hg.cell h.c1 hne, fun j => (World.frozen?_of_block (a := ⟨g, j, none⟩) (hg.block g h.lt hne)).trans (h.fr j)⟩
theorem TwoIn.below {w w' : World} {g : Nat} {x y : Int} (h : TwoIn w g x y) (hb : Below w.heap.size w w') : TwoIn w' g x y := h.grown (row := none) (grown_of_below hb none) (by simp)
theorem TwoIn.alloc {w : World} {g : Nat} {x y : Int} (h : TwoIn w g x y) (b : Obj) : TwoIn (w.alloc b) g x y := h.below ((Below.refl _ _).alloc (Nat.le_refl _) b)
theorem TwoIn.new (w : World) (x y : Int) (T : TypeId) : TwoIn (w.alloc (.cells #[.int .i64 x, .int .i64 y] T)) w.heap.size x y :=
  ⟨by go_simp, by go_simp, fun j => by go_simp⟩
theorem TwoIn.set_ne {w : World} {g : Nat} {x y : Int} (h : TwoIn w g x y) (g' j : Nat) (v : Value) (hne : g ≠ g') : TwoIn (w.setCell ⟨g', j, none⟩ v) g x y :=
  h.grown (grown_set w g' j v) (by simp; exact hne)
end Go.Proofs.YtnbkffehhahckaaGreat

namespace Go.Proofs.YtnbkffehhahckaaGreat
open Go.RowKit
set_option linter.unusedVariables false
set_option maxHeartbeats 400000 in
theorem clone_any (p : Option Addr) (n c : Nat) (xs : List Int) (w : World) (h : Byt w p n c xs) (hb : n ≤ 140737488355328) :
    Calls Tryz.prog 50 #[.slice p n c] w fun e w' => ∃ v, e = .returned v ∧ Own w' w.heap.size 5 v xs ∧ Below w.heap.size w w' := by
  have hl := h.len
  have q := fun (w : World) (a : Option Addr) (n c n' c' : Nat) => Lib.run_eql_slice_nil (P := Tryz.prog) w 22 _ a n c n' c' Tryz.underlying22
  cases p with
  | none =>
    have hn : n = 0 := by
      rcases Nat.eq_zero_or_pos n with h0 | h0
      · exact h0
      · obtain ⟨b, o, h, _⟩ := h.at_ h0
        cases h
    subst hn
    obtain rfl : xs = [] := List.eq_nil_of_length_eq_zero hl
    clear h hl
    go_enter Tryz.func50, Tryz.ntmps50
    go_wp2
    go_ret
    exact ⟨_, rfl, Own.nil _ _ _, Below.refl _ _⟩
  | some a =>
    obtain ⟨i0, hi, hz0, hz1, hz2⟩ := info_parts Tryz.infoByte
    have H := hidden h
    clear h
    go_enter Tryz.func50, Tryz.ntmps50
    go_wp2_with (at_builtin; refine wpList_append_byt _ rfl _ _ 22 rfl w.heap.size 5 i0 (.int .u8 0) Tryz.underlying22 hi hz0 hz1 hz2 rfl _ _ rfl (Own.made w w.heap.size 5 (Nat.le_refl _)) _ _ _ _ _ rfl (H.out.alloc _) rfl ?c1 ?c2 ?_)
    case c1 => simp; omega
    case c2 => simp
    intro v w1 hown hg
    go_wp2
    go_ret
    exact ⟨v, rfl, hown, ((Below.refl _ w).alloc (Nat.le_refl _) _).grown hg (by simp) (by intro k hk; simp [Value.ownBlock] at hk; omega)⟩
end Go.Proofs.YtnbkffehhahckaaGreat
