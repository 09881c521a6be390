/-
  A block of bytes of the call's own; copying a shorter slice into one; an element of an array of bytes.
-/
import Derived.Test.YtgpigjoonhghhaaDoorQShaWd
import Derived.Test.YtgpigjoonhghhaaDoorQInfoB
import Derived.Test.YtgpigjoonhghhaaDoorQOwnB
import Derived.Laws.CopyOwn
namespace Go.Proofs.YtgpigjoonhghhaaDoor
open Go.RowKit
set_option linter.unusedVariables false
structure Wb (w : World) (g : Nat) (t : TypeId) (l : List Int) : Prop where
  heap : w.heap[g]? = some (.cells (l.map (Value.int .u8)).toArray t (0, 0))
section
variable {w : World} {g : Nat} {t : TypeId} {l : List Int}
theorem Wb.lt (h : Wb w g t l) : g < w.heap.size := (Array.getElem?_eq_some_iff.1 h.heap).1
theorem Wb.cell (h : Wb w g t l) (j : Nat) (hj : j < l.length) : w.cell? ⟨g, j, none⟩ = some (.int .u8 (l.getD j 0)) := by
  rw [cell_of_row w g j _ _ _ h.heap]
  simp [List.getD_eq_getElem?_getD, hj]
theorem Wb.fr (h : Wb w g t l) (j : Nat) : w.frozen? ⟨g, j, none⟩ = false := frozen_of_row w g j _ _ h.heap
theorem Wb.alloc (h : Wb w g t l) (o : Obj) : Wb (w.alloc o) g t l := ⟨by rw [Below.heap_alloc w o g h.lt]; exact h.heap⟩
theorem Wb.drew (h : Wb w g t l) : Wb w.drew g t l := ⟨h.heap⟩
theorem Wb.below {w' : World} (h : Wb w g t l) (hb : Below w.heap.size w w') : Wb w' g t l := ⟨by rw [hb.block g h.lt]; exact h.heap⟩
theorem Wb.row (h : Wb w g t l) (m : List Int) : Wb (w.setRow g (m.map (Value.int .u8)).toArray) g t m := ⟨setRow_heap w g _ _ _ _ h.heap⟩
theorem Wb.new (w : World) (t : TypeId) (l : List Int) (cs : Array Value) (hc : cs = (l.map (Value.int .u8)).toArray) : Wb (w.alloc (.cells cs t)) w.heap.size t l := ⟨by rw [heap_alloc_new]; rw [hc]⟩
theorem one8 (l : List Int) : ((l.map (Value.int .u8)).toArray).all (·.oneCell') = true := by
  simp [Value.oneCell']
theorem Wb.byt (h : Wb w g t l) (n : Nat) (hn : l.length = n) (hb : n ≤ maxLen) (hr : ∀ x ∈ l, 0 ≤ x ∧ x ≤ 255) : Byt w (some ⟨g, 0, none⟩) n n l :=
  ⟨hn, Nat.le_refl _, hb, hr, fun _ => ⟨g, 0, rfl, fun i hi => by rw [Nat.zero_add]; exact h.cell i hi⟩⟩
end
theorem run_index8 {P : Program} {t e : TypeId} {n : Nat} (ht : P.underlying t = some (.array n e)) (he : P.underlying e = some (.int .u8)) {i : TypeInfo} (hi : P.info? e = some i) (hs : i.size = 1) (l : List Int) (hl : l.length = n) (j : Nat) (hj : j < n) (w : World) :
    (Instr.index t (.agg (l.map (Value.int .u8)).toArray) (.int .i64 j)).run P w = .ok (.int .u8 (l.getD j 0)) w := by
  subst hl
  have h1 : (0 : Int) ≤ (j : Int) ∧ (j : Int) < (l.length : Int) := by omega
  have h2 : (Option.map (Value.int IntKind.u8) l[j]?) = some (.int .u8 (l.getD j 0)) := by
    simp [List.getD_eq_getElem?_getD, hj]
  unfold Instr.index
  simp [asIntOf, run_underlying ht, run_underlying he, part, isAgg, sizeOf, typeInfo, hi, hs, h2, Result.andThen]
  intro h
  omega
theorem wpList_copy_row {P : Program} {w : World} {ops : Array Oper} {rest : List Oper} {o : Oper} {a : Act} {Q : Exit → Act → World → Prop} (hgd : o.guard = none) (d s : Operand) (dT sT : TypeId)
    (ho : o.op = .call { callee := .builtin .copy, args := #[d, s], argTypes := #[dT, sT] }) (elem : TypeId) (hu : P.underlying dT = some (.slice elem)) (hsz : (P.info? elem).map (·.size) = some 1)
    (g n m : Nat) (hd : a.eval d = .slice (some ⟨g, 0, none⟩) n m) (zs : List Int) (t : TypeId) (hg : w.heap[g]? = some (.cells (zs.map (Value.int .u8)).toArray t (0, 0))) (hzn : n ≤ zs.length)
    (p : Option Addr) (k c : Nat) (ys : List Int) (hs : a.eval s = .slice p k c) (hy : Byt w p k c ys) (hk : k ≤ n)
    (R : List Int) (hR : ys ++ zs.drop k = R) (h : ∀ w', Hid (Wb w' g t R) → Hid (w.grownBy w' (some g)) → wpList P ops Q rest (a.put o.dst (goInt k)) w') : wpList P ops Q (o :: rest) a w := by
  subst hR
  have hlen := hy.len
  rcases Nat.eq_zero_or_pos k with h0 | h0
  · subst h0
    obtain rfl : ys = [] := List.eq_nil_of_length_eq_zero hlen
    refine wpList_copy_nothing hgd d s dT sT ho elem hu hsz _ _ _ _ _ _ hd hs (by simp) ?_
    exact h w ⟨by simpa using hg⟩ (World.grownBy.refl w _)
  · obtain ⟨b, off, rfl, hc⟩ := hy.at_ h0
    refine wpList_copy_own hgd d s dT sT ho elem hu hsz g 0 _ _ _ _ _ hd hs _ t hg (ys.map (Value.int .u8)) (by simp [hlen]; exact (Nat.min_eq_left hk).symm) (fun j u hj => hy.src j u hj) (by simp [hlen]; omega) (u8_one ys) ?_
    have := h (w.setRow g ((zs.map (Value.int .u8)).toArray.toList.take 0 ++ (ys.map (Value.int .u8) ++ (zs.map (Value.int .u8)).toArray.toList.drop (0 + (ys.map (Value.int .u8)).length))).toArray)
      ⟨by rw [setRow_heap w g _ _ t _ hg]; simp [hlen, List.map_drop]⟩
      ⟨rfl, rfl, rfl, by simp, fun k hk hne => setRow_other w g k _ (fun e => hne (by rw [e]))⟩
    simpa [hlen] using this
end Go.Proofs.YtgpigjoonhghhaaDoor
