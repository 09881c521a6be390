/-
  The keyed hash of the document, as functions on lists of numbers.
  A block of bytes of the call's own; copying a shorter slice into one; an element of an array of bytes.
-/
import Derived.Test.YtilnbmlbahflkaaDoorSShaMath
import Derived.Test.YtilnbmlbahflkaaDoorSShaWd
import Derived.Test.YtilnbmlbahflkaaDoorSInfoB
import Derived.Test.YtilnbmlbahflkaaDoorSOwnB
import Derived.Laws.CopyOwn
namespace Go.Proofs.YtilnbmlbahflkaaDoor
open Go.RowKit
set_option linter.unusedVariables false

theorem xor8_comm (a b : Int) : bits .xor .u8 a b = bits .xor .u8 b a := by
  show IntKind.u8.wrap ((BitVec.ofInt 8 a ^^^ BitVec.ofInt 8 b).toNat : Int) = IntKind.u8.wrap ((BitVec.ofInt 8 b ^^^ BitVec.ofInt 8 a).toNat : Int)
  rw [BitVec.xor_comm]
theorem xor8_rng (a b : Int) : 0 ≤ bits .xor .u8 a b ∧ bits .xor .u8 a b ≤ 255 := by
  show 0 ≤ IntKind.u8.wrap _ ∧ IntKind.u8.wrap _ ≤ _
  rw [IntKind.wrap_u8]; omega
theorem xor8_zero (m : Int) (h : 0 ≤ m ∧ m ≤ 255) : bits .xor .u8 0 m = m := by
  show IntKind.u8.wrap ((BitVec.ofInt 8 0 ^^^ BitVec.ofInt 8 m).toNat : Int) = m
  rw [IntKind.wrap_u8, show BitVec.ofInt 8 0 = 0#8 from rfl, BitVec.zero_xor, BitVec.toNat_ofInt]
  omega
/-- The key that is used: a long one is replaced by its hash. -/
def keyS (key : List Int) : List Int := if 64 < key.length then shaS key else key
theorem keyS_len (key : List Int) : (keyS key).length ≤ 64 := by
  unfold keyS
  split
  · rw [shaS_len]; omega
  · omega
/-- The bytes of a block that a key is padded to. -/
def padK (key : List Int) : List Int := keyS key ++ List.replicate (64 - (keyS key).length) 0
theorem padK_len (key : List Int) : (padK key).length = 64 := by
  have := keyS_len key
  simp [padK]; omega
def maskL (m : Int) (l : List Int) : List Int := l.map (fun x => bits .xor .u8 x m)
theorem maskL_len (m : Int) (l : List Int) : (maskL m l).length = l.length := by simp [maskL]
theorem maskL_rng (m : Int) (l : List Int) : ∀ x ∈ maskL m l, 0 ≤ x ∧ x ≤ 255 := by
  intro x hx
  obtain ⟨y, _, rfl⟩ := List.mem_map.1 hx
  exact xor8_rng _ _
theorem maskL_take (m : Int) (l : List Int) (j : Nat) (hj : j < l.length) : maskL m (l.take (j + 1)) = maskL m (l.take j) ++ [bits .xor .u8 (l.getD j 0) m] := by
  rw [List.take_succ_eq_append_getElem hj, maskL, maskL, List.map_append]
  simp [List.getD_eq_getElem?_getD, hj]
def maskS (m : Int) (key : List Int) : List Int := maskL m (padK key)
theorem maskS_len (m : Int) (key : List Int) : (maskS m key).length = 64 := by rw [maskS, maskL_len, padK_len]
theorem maskS_in (m : Int) (key : List Int) (j : Nat) (hj : j < (keyS key).length) : (maskS m key).getD j 0 = bits .xor .u8 m ((keyS key).getD j 0) := by
  have hl := keyS_len key
  rw [xor8_comm, maskS, maskL, padK, List.getD_eq_getElem?_getD, List.getElem?_map, List.getElem?_append_left hj, List.getElem?_eq_getElem hj, List.getD_eq_getElem?_getD, List.getElem?_eq_getElem hj]
  rfl
theorem maskS_out (m : Int) (hm : 0 ≤ m ∧ m ≤ 255) (key : List Int) (j : Nat) (hj : ¬ j < (keyS key).length) (h64 : j < 64) : (maskS m key).getD j 0 = m := by
  have hl := keyS_len key
  rw [maskS, maskL, padK, List.getD_eq_getElem?_getD, List.getElem?_map, List.getElem?_append_right (by omega), List.getElem?_replicate, if_pos (by omega)]
  exact xor8_zero m hm
theorem take_getD (l : List Int) (j : Nat) (hj : j < l.length) : l.take (j + 1) = l.take j ++ [l.getD j 0] := by
  rw [List.take_succ_eq_append_getElem hj]
  simp [List.getD_eq_getElem?_getD, hj]
/-- The keyed hash. -/
def hmacS (key b : List Int) : List Int := shaS (maskS 92 key ++ shaS (maskS 54 key ++ b))
theorem hmacS_len (key b : List Int) : (hmacS key b).length = 32 := shaS_len _
theorem hmacS_rng (key b : List Int) : ∀ x ∈ hmacS key b, 0 ≤ x ∧ x ≤ 255 := shaS_rng _
/-- T_i: the i-th piece. -/
def plusT (key seed : List Int) : Nat → List Int
  | 0 => []
  | i + 1 => hmacS key (plusT key seed i ++ (seed ++ [((i + 1 : Nat) : Int) % 256]))
/-- The first i pieces. -/
def plusO (key seed : List Int) : Nat → List Int
  | 0 => []
  | i + 1 => plusO key seed i ++ plusT key seed (i + 1)
/-- The first n bytes. -/
def plusS (key seed : List Int) (n : Nat) : List Int := (plusO key seed ((n + 31) / 32)).take n
/-- The pieces of bytes, by their sizes. -/
def splitS (b : List Int) : List Int → Option (List (List Int))
  | [] => some []
  | n :: l => if 0 ≤ n ∧ n ≤ b.length then (splitS (b.drop n.toNat) l).map (b.take n.toNat :: ·) else none
end Go.Proofs.YtilnbmlbahflkaaDoor

namespace Go.Proofs.YtilnbmlbahflkaaDoor
open Go.RowKit
set_option linter.unusedVariables false

/-- The block g holds just these bytes. -/
structure Wb (w : World) (g : Nat) (t : TypeId) (l : List Int) : Prop where
  heap : w.heap[g]? = some (.cells (l.map (Value.int .u8)).toArray t (0, 0))
section
variable {w : World} {g : Nat} {t : TypeId} {l : List Int}
theorem Wb.lt (h : Wb w g t l) : g < w.heap.size := (Array.getElem?_eq_some_iff.1 h.heap).1
theorem Wb.cell (h : Wb w g t l) (j : Nat) (hj : j < l.length) : w.cell? ⟨g, j, none⟩ = some (.int .u8 (l.getD j 0)) := by
  rw [cell_of_row w g j _ _ _ h.heap]
  simp [List.getD_eq_getElem?_getD, hj]
theorem Wb.fr (h : Wb w g t l) (j : Nat) : w.frozen? ⟨g, j, none⟩ = false := frozen_of_row w g j _ _ h.heap
theorem Wb.alloc (h : Wb w g t l) (o : Obj) : Wb (w.alloc o) g t l := ⟨by rw [Below.heap_alloc w o g h.lt]; exact h.heap⟩
theorem Wb.drew (h : Wb w g t l) : Wb w.drew g t l := ⟨h.heap⟩
theorem Wb.below {w' : World} (h : Wb w g t l) (hb : Below w.heap.size w w') : Wb w' g t l := ⟨by rw [hb.block g h.lt]; exact h.heap⟩
theorem Wb.row (h : Wb w g t l) (m : List Int) : Wb (w.setRow g (m.map (Value.int .u8)).toArray) g t m := ⟨setRow_heap w g _ _ _ _ h.heap⟩
theorem Wb.new (w : World) (t : TypeId) (l : List Int) (cs : Array Value) (hc : cs = (l.map (Value.int .u8)).toArray) : Wb (w.alloc (.cells cs t)) w.heap.size t l := ⟨by rw [heap_alloc_new]; rw [hc]⟩
theorem one8 (l : List Int) : ((l.map (Value.int .u8)).toArray).all (·.oneCell') = true := by
  simp [Value.oneCell']
theorem Wb.byt (h : Wb w g t l) (n : Nat) (hn : l.length = n) (hb : n ≤ maxLen) (hr : ∀ x ∈ l, 0 ≤ x ∧ x ≤ 255) : Byt w (some ⟨g, 0, none⟩) n n l :=
  ⟨hn, Nat.le_refl _, hb, hr, fun _ => ⟨g, 0, rfl, fun i hi => by rw [Nat.zero_add]; exact h.cell i hi⟩⟩
end

/-- An element of an array of bytes. -/
theorem run_index8 {P : Program} {t e : TypeId} {n : Nat} (ht : P.underlying t = some (.array n e)) (he : P.underlying e = some (.int .u8)) {i : TypeInfo} (hi : P.info? e = some i) (hs : i.size = 1) (l : List Int) (hl : l.length = n) (j : Nat) (hj : j < n) (w : World) :
    (Instr.index t (.agg (l.map (Value.int .u8)).toArray) (.int .i64 j)).run P w = .ok (.int .u8 (l.getD j 0)) w := by
  subst hl
  have h1 : (0 : Int) ≤ (j : Int) ∧ (j : Int) < (l.length : Int) := by omega
  have h2 : (Option.map (Value.int IntKind.u8) l[j]?) = some (.int .u8 (l.getD j 0)) := by
    simp [List.getD_eq_getElem?_getD, hj]
  unfold Instr.index
  simp [asIntOf, run_underlying ht, run_underlying he, part, isAgg, sizeOf, typeInfo, hi, hs, h2, Result.andThen]
  intro h
  omega

/-- copy(row, src), where the row is known whole and src is no longer than it. -/
theorem wpList_copy_row {P : Program} {w : World} {ops : Array Oper} {rest : List Oper} {o : Oper} {a : Act} {Q : Exit → Act → World → Prop} (hgd : o.guard = none) (d s : Operand) (dT sT : TypeId)
    (ho : o.op = .call { callee := .builtin .copy, args := #[d, s], argTypes := #[dT, sT] }) (elem : TypeId) (hu : P.underlying dT = some (.slice elem)) (hsz : (P.info? elem).map (·.size) = some 1)
    (g n m : Nat) (hd : a.eval d = .slice (some ⟨g, 0, none⟩) n m) (zs : List Int) (t : TypeId) (hg : w.heap[g]? = some (.cells (zs.map (Value.int .u8)).toArray t (0, 0))) (hzn : n ≤ zs.length)
    (p : Option Addr) (k c : Nat) (ys : List Int) (hs : a.eval s = .slice p k c) (hy : Byt w p k c ys) (hk : k ≤ n)
    (R : List Int) (hR : ys ++ zs.drop k = R) (h : ∀ w', Hid (Wb w' g t R) → Hid (w.grownBy w' (some g)) → wpList P ops Q rest (a.put o.dst (goInt k)) w') : wpList P ops Q (o :: rest) a w := by
  subst hR
  have hlen := hy.len
  rcases Nat.eq_zero_or_pos k with h0 | h0
  · subst h0
    obtain rfl : ys = [] := List.eq_nil_of_length_eq_zero hlen
    refine wpList_copy_nothing hgd d s dT sT ho elem hu hsz _ _ _ _ _ _ hd hs (by simp) ?_
    exact h w ⟨by simpa using hg⟩ (World.grownBy.refl w _)
  · obtain ⟨b, off, rfl, hc⟩ := hy.at_ h0
    refine wpList_copy_own hgd d s dT sT ho elem hu hsz g 0 _ _ _ _ _ hd hs _ t hg (ys.map (Value.int .u8)) (by simp [hlen]; exact (Nat.min_eq_left hk).symm) (fun j u hj => hy.src j u hj) (by simp [hlen]; omega) (u8_one ys) ?_
    have := h (w.setRow g ((zs.map (Value.int .u8)).toArray.toList.take 0 ++ (ys.map (Value.int .u8) ++ (zs.map (Value.int .u8)).toArray.toList.drop (0 + (ys.map (Value.int .u8)).length))).toArray)
      ⟨by rw [setRow_heap w g _ _ t _ hg]; simp [hlen, List.map_drop]⟩
      ⟨rfl, rfl, rfl, by simp, fun k hk hne => setRow_other w g k _ (fun e => hne (by rw [e]))⟩
    simpa [hlen] using this

end Go.Proofs.YtilnbmlbahflkaaDoor
